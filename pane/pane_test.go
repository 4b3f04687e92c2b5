package pane

import (
	"math"
	"math/rand"
	"slices"
	"testing"

	"easel/api"
)

const (
	least = math.MinInt64
	most  = math.MaxInt64
)

func window(start, end int64) api.Span { return api.Span{Start: start, End: end} }

func windows(l ...api.Span) []api.Span { return l }

func of(count int, sum, low, high int64) api.Agg {
	return api.Agg{Count: count, Sum: sum, Min: low, Max: high}
}

// at is k's pane of a window.
func at(start, end int64, a api.Agg) api.Pane {
	return api.Pane{Key: "k", Span: window(start, end), Agg: a}
}

func panes(l ...api.Pane) []api.Pane { return l }

// three are panes with room ahead of them, between them and behind them.
func three() []api.Pane {
	return panes(
		at(0, 10, of(1, 5, 5, 5)),
		at(20, 30, of(2, 3, -2, 5)),
		at(40, 50, of(3, -6, -3, -1)),
	)
}

// spanned are panes of windows, each of one value: 1 in the first, 2 in the second, and so on.
func spanned(l ...api.Span) []api.Pane {
	var list []api.Pane
	for i, s := range l {
		n := int64(i) + 1
		list = append(list, api.Pane{Key: "k", Span: s, Agg: of(1, n, n, n)})
	}
	return list
}

// P7.1: the answers to Put into each list are written out whole.
func TestPut(t *testing.T) {
	one := of(1, 7, 7, 7)
	l := three()
	rows := []struct {
		name string
		l    []api.Pane
		s    api.Span
		want []api.Pane
	}{
		{"nil", nil, window(0, 10), panes(at(0, 10, one))},
		{"an empty list", []api.Pane{}, window(0, 10), panes(at(0, 10, one))},
		{"ahead of all", l, window(-20, -10), panes(at(-20, -10, one), l[0], l[1], l[2])},
		{"ahead of all, by Start alone", l, window(-1, 10), panes(at(-1, 10, one), l[0], l[1], l[2])},
		{"ahead of all, by End alone", l, window(0, 9), panes(at(0, 9, one), l[0], l[1], l[2])},
		{"behind the first", l, window(10, 20), panes(l[0], at(10, 20, one), l[1], l[2])},
		{"behind the first, by Start alone", l, window(1, 10), panes(l[0], at(1, 10, one), l[1], l[2])},
		{"behind the first, by End alone", l, window(0, 11), panes(l[0], at(0, 11, one), l[1], l[2])},
		{"behind the second", l, window(30, 40), panes(l[0], l[1], at(30, 40, one), l[2])},
		{"one that meets two", l, window(5, 25), panes(l[0], at(5, 25, one), l[1], l[2])},
		{"one that meets all", l, window(0, 60), panes(l[0], at(0, 60, one), l[1], l[2])},
		{"behind all", l, window(50, 60), panes(l[0], l[1], l[2], at(50, 60, one))},
		{"behind all, by Start alone", l, window(41, 50), panes(l[0], l[1], l[2], at(41, 50, one))},
		{"behind all, by End alone", l, window(40, 51), panes(l[0], l[1], l[2], at(40, 51, one))},
		{"into the first", l, window(0, 10), panes(at(0, 10, of(2, 12, 5, 7)), l[1], l[2])},
		{"into the second", l, window(20, 30), panes(l[0], at(20, 30, of(3, 10, -2, 7)), l[2])},
		{"into the last", l, window(40, 50), panes(l[0], l[1], at(40, 50, of(4, 1, -3, 7)))},
		{"into the only one", l[:1], window(0, 10), panes(at(0, 10, of(2, 12, 5, 7)))},
	}
	for _, r := range rows {
		if got := Put(r.l, "k", r.s, 7); !slices.Equal(got, r.want) {
			t.Errorf("%s: Put(%v, k, %v, 7) = %v; want %v", r.name, r.l, r.s, got, r.want)
		}
	}
}

// P7.1: windows that differ by their End alone are different ones, put in whatever order.
func TestPutOfWindowsThatDifferByEnd(t *testing.T) {
	ends := []int64{3, 9, 10, 11, 50, most, least, 0}
	for range ends {
		ends = append(ends[1:], ends[0])
		var l []api.Pane
		for _, end := range ends {
			l = Put(l, "k", window(0, end), end)
		}
		l = Put(l, "k", window(0, 10), 1)
		want := panes(
			at(0, least, of(1, least, least, least)), at(0, 0, of(1, 0, 0, 0)), at(0, 3, of(1, 3, 3, 3)), at(0, 9, of(1, 9, 9, 9)),
			at(0, 10, of(2, 11, 1, 10)), at(0, 11, of(1, 11, 11, 11)), at(0, 50, of(1, 50, 50, 50)), at(0, most, of(1, most, most, most)),
		)
		if !slices.Equal(l, want) {
			t.Errorf("put by the Ends %v they are %v; want %v", ends, l, want)
		}
	}
}

// P7.1: a key is told as it is handed in, whatever its bytes are.
func TestKeys(t *testing.T) {
	for _, key := range []string{"", "a", "\x00", "é", "\xff\xfe", "more than twenty bytes of a key"} {
		want := api.Pane{Key: key, Span: window(0, 10), Agg: of(1, 4, 4, 4)}
		l := Put(nil, key, window(0, 10), 4)
		if !slices.Equal(l, panes(want)) {
			t.Errorf("Put(nil, %q, 0 to 10, 4) = %v", key, l)
		}
		if m, _, _ := Merge(nil, key, window(0, 10), 4); !slices.Equal(m, panes(want)) {
			t.Errorf("Merge(nil, %q, 0 to 10, 4) = %v", key, m)
		}
		want = api.Pane{Key: key, Span: window(0, 15), Agg: of(2, 9, 4, 5)}
		if m, _, _ := Merge(l, key, window(5, 15), 5); !slices.Equal(m, panes(want)) {
			t.Errorf("Merge(%v, %q, 5 to 15, 5) = %v", l, key, m)
		}
		if p, is := Find(l, window(0, 10)); !is || p.Key != key {
			t.Errorf("Find(%v, 0 to 10) = %v, %v", l, p, is)
		}
	}
}

// mergeRow is a Merge of k's 7, and all that it tells.
type mergeRow struct {
	name string
	l    []api.Pane
	s    api.Span
	want []api.Pane
	gone []api.Span
	now  api.Span
}

func checkMerge(t *testing.T, rows []mergeRow) {
	t.Helper()
	for _, r := range rows {
		got, gone, now := Merge(r.l, "k", r.s, 7)
		if !slices.Equal(got, r.want) || !slices.Equal(gone, r.gone) || now != r.now {
			t.Errorf("%s: Merge(%v, k, %v, 7) = %v, %v, %v; want %v, %v, %v",
				r.name, r.l, r.s, got, gone, now, r.want, r.gone, r.now)
		}
	}
}

// P7.1
func TestMergeThatMeetsNone(t *testing.T) {
	one := of(1, 7, 7, 7)
	l := three()
	checkMerge(t, []mergeRow{
		{"nil", nil, window(0, 10), panes(at(0, 10, one)), nil, window(0, 10)},
		{"an empty list", []api.Pane{}, window(0, 10), panes(at(0, 10, one)), nil, window(0, 10)},
		{"ahead of all", l, window(-20, -5), panes(at(-20, -5, one), l[0], l[1], l[2]), nil, window(-20, -5)},
		{"touches the first", l, window(-20, 0), panes(at(-20, 0, one), l[0], l[1], l[2]), nil, window(-20, 0)},
		{"between two", l, window(12, 18), panes(l[0], at(12, 18, one), l[1], l[2]), nil, window(12, 18)},
		{"touches the one ahead", l, window(10, 18), panes(l[0], at(10, 18, one), l[1], l[2]), nil, window(10, 18)},
		{"touches the one behind", l, window(12, 20), panes(l[0], at(12, 20, one), l[1], l[2]), nil, window(12, 20)},
		{"touches both", l, window(30, 40), panes(l[0], l[1], at(30, 40, one), l[2]), nil, window(30, 40)},
		{"touches the last", l, window(50, 51), panes(l[0], l[1], l[2], at(50, 51, one)), nil, window(50, 51)},
		{"behind all", l, window(60, 70), panes(l[0], l[1], l[2], at(60, 70, one)), nil, window(60, 70)},
	})
}

// P7.1
func TestMergeThatMeetsSome(t *testing.T) {
	l := three()
	first, second, third := of(2, 12, 5, 7), of(3, 10, -2, 7), of(4, 1, -3, 7)
	ahead, behind, all := of(4, 15, -2, 7), of(6, 4, -3, 7), of(7, 9, -3, 7)
	checkMerge(t, []mergeRow{
		{"the first, from ahead", l, window(-5, 1), panes(at(-5, 10, first), l[1], l[2]), windows(l[0].Span), window(-5, 10)},
		{"the first, from behind", l, window(9, 20), panes(at(0, 20, first), l[1], l[2]), windows(l[0].Span), window(0, 20)},
		{"the second, at both sides", l, window(15, 35), panes(l[0], at(15, 35, second), l[2]), windows(l[1].Span), window(15, 35)},
		{"the second, and touches both others", l, window(10, 40), panes(l[0], at(10, 40, second), l[2]), windows(l[1].Span), window(10, 40)},
		{"the last, by more at its End", l, window(40, 51), panes(l[0], l[1], at(40, 51, third)), windows(l[2].Span), window(40, 51)},
		{"the last, by more at its Start", l, window(39, 50), panes(l[0], l[1], at(39, 50, third)), windows(l[2].Span), window(39, 50)},
		{"the first two, at their edges", l, window(9, 21), panes(at(0, 30, ahead), l[2]), windows(l[0].Span, l[1].Span), window(0, 30)},
		{"the first two, whole", l, window(-1, 31), panes(at(-1, 31, ahead), l[2]), windows(l[0].Span, l[1].Span), window(-1, 31)},
		{"the last two", l, window(29, 41), panes(l[0], at(20, 50, behind)), windows(l[1].Span, l[2].Span), window(20, 50)},
		{"all, at their edges", l, window(9, 41), panes(at(0, 50, all)), windows(l[0].Span, l[1].Span, l[2].Span), window(0, 50)},
		{"all, whole", l, window(-7, 77), panes(at(-7, 77, all)), windows(l[0].Span, l[1].Span, l[2].Span), window(-7, 77)},
		{"the only one", l[:1], window(5, 15), panes(at(0, 15, first)), windows(l[0].Span), window(0, 15)},
	})
}

// P7.1: the chapter's example, by whatever order it is made in.
func TestMergeOfTheExample(t *testing.T) {
	all := windows(window(0, 10), window(15, 25), window(8, 18))
	for _, order := range [][]int{{0, 1, 2}, {1, 0, 2}, {0, 2, 1}, {2, 0, 1}, {1, 2, 0}, {2, 1, 0}} {
		var l []api.Pane
		for _, i := range order {
			l, _, _ = Merge(l, "k", all[i], int64(i)+1)
		}
		if want := panes(at(0, 25, of(3, 6, 1, 3))); !slices.Equal(l, want) {
			t.Errorf("merged in by %v they are %v; want %v", order, l, want)
		}
	}
}

// P7.1: where one that is there is as wide as the join, it isn't told as one that is no more, but others are.
func TestMergeWithinOne(t *testing.T) {
	l := three()
	second := of(3, 10, -2, 7)
	over := spanned(window(0, 10), window(0, 20), window(5, 15), window(18, 19))
	checkMerge(t, []mergeRow{
		{"in its middle", l, window(22, 25), panes(l[0], at(20, 30, second), l[2]), nil, window(20, 30)},
		{"at its Start", l, window(20, 21), panes(l[0], at(20, 30, second), l[2]), nil, window(20, 30)},
		{"at its End", l, window(29, 30), panes(l[0], at(20, 30, second), l[2]), nil, window(20, 30)},
		{"there already", l, window(20, 30), panes(l[0], at(20, 30, second), l[2]), nil, window(20, 30)},
		{"there already, the first", l, window(0, 10), panes(at(0, 10, of(2, 12, 5, 7)), l[1], l[2]), nil, window(0, 10)},
		{"there already, the last", l, window(40, 50), panes(l[0], l[1], at(40, 50, of(4, 1, -3, 7))), nil, window(40, 50)},
		{"there already, the only one", l[:1], window(0, 10), panes(at(0, 10, of(2, 12, 5, 7))), nil, window(0, 10)},
		{"within the widest of some that meet", over, window(6, 8), panes(at(0, 20, of(4, 13, 1, 7)), over[3]),
			windows(window(0, 10), window(5, 15)), window(0, 20)},
		{"the widest itself", over, window(0, 20), panes(at(0, 20, of(5, 17, 1, 7))),
			windows(window(0, 10), window(5, 15), window(18, 19)), window(0, 20)},
	})
}

// P7.1: only what meets the window itself becomes one, not what meets the join.
func TestMergeInAListWhoseWindowsMeet(t *testing.T) {
	l := spanned(window(0, 10), window(0, 20), window(15, 40), window(18, 22))
	checkMerge(t, []mergeRow{
		{"the join meets one more", l, window(-5, 1), panes(at(-5, 20, of(3, 10, 1, 7)), l[2], l[3]),
			windows(window(0, 10), window(0, 20)), window(-5, 20)},
		{"the join comes ahead of those that it meets", l, window(30, 35), panes(l[0], l[1], at(15, 40, of(2, 10, 3, 7)), l[3]),
			nil, window(15, 40)},
		{"the join comes ahead of one that isn't of it", spanned(window(0, 10), window(5, 8), window(9, 12)), window(11, 14),
			panes(at(0, 10, of(1, 1, 1, 1)), at(5, 8, of(1, 2, 2, 2)), at(9, 14, of(2, 10, 3, 7))), windows(window(9, 12)), window(9, 14)},
		{"the join moves ahead of one that stood ahead", spanned(window(0, 3), window(2, 9), window(4, 6)), window(8, 12),
			panes(at(0, 3, of(1, 1, 1, 1)), at(2, 12, of(2, 9, 2, 7)), at(4, 6, of(1, 3, 3, 3))), windows(window(2, 9)), window(2, 12)},
		{"the join moves behind one by its End", spanned(window(0, 9), window(0, 11), window(2, 3)), window(10, 12),
			panes(at(0, 9, of(1, 1, 1, 1)), at(0, 12, of(2, 9, 2, 7)), at(2, 3, of(1, 3, 3, 3))), windows(window(0, 11)), window(0, 12)},
		{"the window's Start alone moves it", spanned(window(0, 3), window(1, 4), window(5, 9)), window(4, 6),
			panes(at(0, 3, of(1, 1, 1, 1)), at(1, 4, of(1, 2, 2, 2)), at(4, 9, of(2, 10, 3, 7))), windows(window(5, 9)), window(4, 9)},
	})
}

// P7.1: a window that may not be meets none, also where it lies within one, and is put beside, or into its own pane.
func TestMergeOfWindowsThatMayNotBe(t *testing.T) {
	one := of(1, 7, 7, 7)
	l := three()
	odd := spanned(window(0, 10), window(5, 5), window(5, 6), window(8, 2))
	checkMerge(t, []mergeRow{
		{"nil", nil, window(5, 5), panes(at(5, 5, one)), nil, window(5, 5)},
		{"no time, within one", l, window(5, 5), panes(l[0], at(5, 5, one), l[1], l[2]), nil, window(5, 5)},
		{"no time, at the Start of one", l, window(20, 20), panes(l[0], at(20, 20, one), l[1], l[2]), nil, window(20, 20)},
		{"no time, at the End of one", l, window(30, 30), panes(l[0], l[1], at(30, 30, one), l[2]), nil, window(30, 30)},
		{"the wrong way round, over two", l, window(25, 5), panes(l[0], l[1], at(25, 5, one), l[2]), nil, window(25, 5)},
		{"the wrong way round, over all", l, window(60, -10), panes(l[0], l[1], l[2], at(60, -10, one)), nil, window(60, -10)},
		{"the wrong way round, by all 64 bits", l, window(most, least), panes(l[0], l[1], l[2], at(most, least, one)), nil, window(most, least)},
		{"there already, no time", odd, window(5, 5), panes(odd[0], at(5, 5, of(2, 9, 2, 7)), odd[2], odd[3]), nil, window(5, 5)},
		{"there already, the wrong way round", odd, window(8, 2), panes(odd[0], odd[1], odd[2], at(8, 2, of(2, 11, 4, 7))), nil, window(8, 2)},
		{"one that may be, over some that may not", odd, window(1, 9), panes(at(0, 10, of(3, 11, 1, 7)), odd[1], odd[3]),
			windows(window(5, 6)), window(0, 10)},
		{"one that may be, over none but that", panes(odd[1], odd[3]), window(1, 9), panes(at(1, 9, one), odd[1], odd[3]), nil, window(1, 9)},
	})
}

// P7.1: at both ends of 64 bits, where a difference of two wouldn't fit.
func TestEndsOfNumbers(t *testing.T) {
	one := of(1, 7, 7, 7)
	l := spanned(window(least, least+1), window(least, 0), window(0, most), window(most-1, most))
	apart := panes(l[0], l[3])
	whole := spanned(window(least, most))
	checkMerge(t, []mergeRow{
		{"the first time", nil, window(least, least+1), panes(at(least, least+1, one)), nil, window(least, least+1)},
		{"nearly all times", nil, window(least, most), panes(at(least, most, one)), nil, window(least, most)},
		{"nearly all times, over all", l, window(least, most), panes(at(least, most, of(5, 17, 1, 7))),
			windows(l[0].Span, l[1].Span, l[2].Span, l[3].Span), window(least, most)},
		{"the two ends, and all between", apart, window(least, most), panes(at(least, most, of(3, 12, 1, 7))),
			windows(l[0].Span, l[3].Span), window(least, most)},
		{"between the two ends, touching both", apart, window(least+1, most-1), panes(l[0], at(least+1, most-1, one), l[3]), nil, window(least+1, most-1)},
		{"within nearly all times", whole, window(most-1, most), panes(at(least, most, of(2, 8, 1, 7))), nil, window(least, most)},
		{"no time at the greatest", apart, window(most, most), panes(l[0], l[3], at(most, most, one)), nil, window(most, most)},
		{"no time at the least", apart, window(least, least), panes(at(least, least, one), l[0], l[3]), nil, window(least, least)},
	})
	rows := []struct {
		s    api.Span
		want []api.Pane
	}{
		{window(least, least), panes(at(least, least, one), l[0], l[1], l[2], l[3])},
		{window(least, least+1), panes(at(least, least+1, of(2, 8, 1, 7)), l[1], l[2], l[3])},
		{window(least, 0), panes(l[0], at(least, 0, of(2, 9, 2, 7)), l[2], l[3])},
		{window(least, most), panes(l[0], l[1], at(least, most, one), l[2], l[3])},
		{window(0, most), panes(l[0], l[1], at(0, most, of(2, 10, 3, 7)), l[3])},
		{window(most-1, most), panes(l[0], l[1], l[2], at(most-1, most, of(2, 11, 4, 7)))},
		{window(most, least), panes(l[0], l[1], l[2], l[3], at(most, least, one))},
		{window(most, most), panes(l[0], l[1], l[2], l[3], at(most, most, one))},
	}
	for _, r := range rows {
		if got := Put(l, "k", r.s, 7); !slices.Equal(got, r.want) {
			t.Errorf("Put(%v, k, %v, 7) = %v; want %v", l, r.s, got, r.want)
		}
	}
}

// P7.1: what values come to goes by layer 4, also beyond 64 bits, and where a pane has no values.
func TestValues(t *testing.T) {
	rows := []struct {
		name string
		a    api.Agg
		v    int64
		want api.Agg
	}{
		{"one more", of(2, 3, -2, 5), 1, of(3, 4, -2, 5)},
		{"a new Min", of(2, 3, -2, 5), -9, of(3, -6, -9, 5)},
		{"a new Max", of(2, 3, -2, 5), 9, of(3, 12, -2, 9)},
		{"the least", of(1, 0, 0, 0), least, of(2, least, least, 0)},
		{"the greatest", of(1, 0, 0, 0), most, of(2, most, 0, most)},
		{"a sum one above the greatest", of(1, most, most, most), 1, of(2, least, 1, most)},
		{"a sum one below the least", of(1, least, least, least), -1, of(2, most, least, -1)},
		{"the greatest twice", of(1, most, most, most), most, of(2, -2, most, most)},
		{"the least twice", of(1, least, least, least), least, of(2, 0, least, least)},
		{"the least and the greatest", of(1, least, least, least), most, of(2, -1, least, most)},
		{"no values", of(0, 9, 9, 9), 4, of(1, 4, 4, 4)},
		{"fewer than none", of(-3, 9, -9, 9), 4, of(1, 4, 4, 4)},
	}
	for _, r := range rows {
		l := panes(at(0, 10, r.a), at(20, 30, of(1, 1, 1, 1)))
		want := panes(at(0, 10, r.want), l[1])
		if got := Put(l, "k", window(0, 10), r.v); !slices.Equal(got, want) {
			t.Errorf("%s: Put(%v, k, 0 to 10, %d) = %v; want %v", r.name, l, r.v, got, want)
		}
		if got, _, _ := Merge(l, "k", window(3, 7), r.v); !slices.Equal(got, want) {
			t.Errorf("%s: Merge(%v, k, 3 to 7, %d) = %v; want %v", r.name, l, r.v, got, want)
		}
	}
}

// P7.1: where some become one, so do their sums, beyond 64 bits too, and one of no values brings none.
func TestValuesOfSome(t *testing.T) {
	rows := []struct {
		name string
		a, b api.Agg
		v    int64
		want api.Agg
	}{
		{"some of each", of(2, 3, -2, 5), of(3, 30, 1, 20), 4, of(6, 37, -2, 20)},
		{"a sum that is just the greatest", of(1, most-2, most-2, most-2), of(1, 1, 1, 1), 1, of(3, most, 1, most-2)},
		{"a sum one above the greatest", of(1, most-2, most-2, most-2), of(1, 1, 1, 1), 2, of(3, least, 1, most-2)},
		{"a sum one below the least", of(1, least, least, least), of(1, 1, 1, 1), -2, of(3, most, least, 1)},
		{"the greatest three times", of(1, most, most, most), of(1, most, most, most), most, of(3, most-2, most, most)},
		{"the least three times", of(1, least, least, least), of(1, least, least, least), least, of(3, least, least, least)},
		{"beyond and back", of(1, most, most, most), of(1, most, most, most), least, of(3, most-1, least, most)},
		{"the first has no values", of(0, 9, 99, -99), of(1, 3, 3, 3), 4, of(2, 7, 3, 4)},
		{"the second has no values", of(1, 3, 3, 3), of(-1, 9, 99, -99), 4, of(2, 7, 3, 4)},
		{"neither has values", of(-1, 9, 99, -99), of(0, 9, -99, 99), 4, of(1, 4, 4, 4)},
	}
	for _, r := range rows {
		l := panes(at(0, 10, r.a), at(20, 30, r.b))
		want := panes(at(0, 30, r.want))
		if got, _, _ := Merge(l, "k", window(5, 25), r.v); !slices.Equal(got, want) {
			t.Errorf("%s: Merge(%v, k, 5 to 25, %d) = %v; want %v", r.name, l, r.v, got, want)
		}
	}
}

// lists are lists as told: of none, one and more, whose windows meet or don't, may be or may not be.
func lists() [][]api.Pane {
	return [][]api.Pane{
		nil,
		{},
		three(),
		three()[1:2],
		three()[:2],
		spanned(window(5, 5)),
		spanned(window(0, 9), window(0, 10), window(0, 11), window(1, 9)),
		spanned(window(least, least), window(least, 0), window(least, most), window(0, 10), window(12, 3), window(most, least), window(most, most)),
		spanned(window(0, 1), window(1, 2), window(2, 3), window(3, 4), window(4, 5), window(5, 6), window(6, 7), window(7, 8)),
	}
}

// absent are some windows that a list has no pane of: beside each that it has they differ by Start, or by End, alone.
func absent(l []api.Pane) []api.Span {
	var list []api.Span
	for _, p := range append(three(), l...) {
		for _, s := range windows(
			p.Span, window(p.Span.Start+1, p.Span.End), window(p.Span.Start-1, p.Span.End),
			window(p.Span.Start, p.Span.End+1), window(p.Span.Start, p.Span.End-1), window(p.Span.End, p.Span.Start),
			window(most, least), window(least, most), window(0, 0),
		) {
			if !slices.ContainsFunc(l, func(p api.Pane) bool { return p.Span == s }) {
				list = append(list, s)
			}
		}
	}
	return list
}

// P7.1
func TestFind(t *testing.T) {
	for _, l := range lists() {
		for _, p := range l {
			if got, is := Find(l, p.Span); got != p || !is {
				t.Errorf("Find(%v, %v) = %v, %v; want %v, true", l, p.Span, got, is, p)
			}
		}
		for _, s := range absent(l) {
			if got, is := Find(l, s); got != (api.Pane{}) || is {
				t.Errorf("Find(%v, %v) = %v, %v; want a zero one, false", l, s, got, is)
			}
		}
	}
}

// P7.1: what is cut out is found no more, and all else stands as it did.
func TestCut(t *testing.T) {
	for _, l := range lists() {
		for i, p := range l {
			want := append(slices.Clone(l[:i]), l[i+1:]...)
			got, cut, is := Cut(l, p.Span)
			if !slices.Equal(got, want) || cut != p || !is {
				t.Errorf("Cut(%v, %v) = %v, %v, %v; want %v, %v, true", l, p.Span, got, cut, is, want, p)
			}
			if again, cut, is := Cut(got, p.Span); !slices.Equal(again, want) || cut != (api.Pane{}) || is {
				t.Errorf("Cut(%v, %v) = %v, %v, %v; want the list, a zero one, false", got, p.Span, again, cut, is)
			}
		}
		for _, s := range absent(l) {
			if got, cut, is := Cut(l, s); !slices.Equal(got, l) || cut != (api.Pane{}) || is {
				t.Errorf("Cut(%v, %v) = %v, %v, %v; want the list, a zero one, false", l, s, got, cut, is)
			}
		}
	}
}

// P7.1: a window that was just put is found, and cut out it leaves what was.
func TestPutFindCut(t *testing.T) {
	for _, l := range lists() {
		for _, s := range absent(l) {
			want := api.Pane{Key: "k", Span: s, Agg: of(1, 9, 9, 9)}
			all := Put(l, "k", s, 9)
			if p, is := Find(all, s); p != want || !is {
				t.Errorf("Find of %v, put into %v, = %v, %v", s, l, p, is)
			}
			if rest, p, is := Cut(all, s); !slices.Equal(rest, l) || p != want || !is {
				t.Errorf("Cut of %v, put into %v, = %v, %v, %v", s, l, rest, p, is)
			}
		}
	}
}

// roomy is a list with room behind it, in which panes stand that nobody handed in.
func roomy(l []api.Pane) (list, all []api.Pane) {
	all = append(slices.Clone(l), spanned(window(900, 901), window(902, 903), window(904, 905))...)
	return all[:len(l)], all
}

// spoil writes over a list, and over all of its room.
func spoil(l []api.Pane) {
	l = l[:cap(l)]
	for i := range l {
		l[i] = api.Pane{Key: "spoilt", Span: window(-77, 77), Agg: of(77, 77, 77, 77)}
	}
}

// calls are each call that tells a list, of one window.
func calls(s api.Span) map[string]func(l []api.Pane) []api.Pane {
	return map[string]func(l []api.Pane) []api.Pane{
		"Put": func(l []api.Pane) []api.Pane { return Put(l, "k", s, 7) },
		"Merge": func(l []api.Pane) []api.Pane {
			list, _, _ := Merge(l, "k", s, 7)
			return list
		},
		"Cut": func(l []api.Pane) []api.Pane {
			list, _, _ := Cut(l, s)
			return list
		},
	}
}

// asked are windows that a list has, windows that it doesn't have, and wide ones.
func asked(l []api.Pane) []api.Span {
	list := append(absent(l), window(9, 21), window(-100, 100))
	for _, p := range l {
		list = append(list, p.Span)
	}
	return list
}

// P7.2: also what stands in the room behind a list isn't written over.
func TestHandedInStays(t *testing.T) {
	for _, l := range lists() {
		for _, s := range asked(l) {
			for name, do := range calls(s) {
				list, all := roomy(l)
				had := slices.Clone(all)
				do(list)
				if !slices.Equal(all, had) {
					t.Fatalf("%s of %v changed %v, of %d, to %v", name, s, had, len(list), all)
				}
			}
			list, all := roomy(l)
			had := slices.Clone(all)
			if Find(list, s); !slices.Equal(all, had) {
				t.Fatalf("Find of %v changed %v, of %d, to %v", s, had, len(list), all)
			}
		}
	}
}

// P7.2: neither is a change of what is told seen in what was handed in, nor the other way round, nor in a second answer.
func TestToldIsNew(t *testing.T) {
	for _, l := range lists() {
		for _, s := range asked(l) {
			for name, do := range calls(s) {
				list, all := roomy(l)
				had := slices.Clone(all)
				want := slices.Clone(do(list))
				first, second := do(list), do(list)
				spoil(first)
				if !slices.Equal(all, had) {
					t.Fatalf("%s of %v: a change of what it tells is seen in %v", name, s, had)
				}
				if !slices.Equal(second, want) {
					t.Fatalf("%s of %v in %v: a change of one answer is seen in another one", name, s, had)
				}
				if again := do(list); !slices.Equal(again, want) {
					t.Fatalf("%s of %v in %v: a change of what it told is seen in what it tells", name, s, had)
				}
				spoil(all)
				if !slices.Equal(second, want) {
					t.Fatalf("%s of %v: a change of %v is seen in what it told", name, s, had)
				}
			}
		}
	}
}

// P7.2: the windows that Merge tells are new memory too.
func TestToldWindowsAreNew(t *testing.T) {
	l := three()
	list, gone, now := Merge(l, "k", window(9, 41), 7)
	had, want := slices.Clone(list), windows(window(0, 10), window(20, 30), window(40, 50))
	_, second, _ := Merge(l, "k", window(9, 41), 7)
	gone = gone[:cap(gone)]
	for i := range gone {
		gone[i] = window(-77, 77)
	}
	if !slices.Equal(l, three()) || !slices.Equal(list, had) || !slices.Equal(second, want) || now != window(0, 50) {
		t.Errorf("a change of windows that Merge told is seen in %v, %v or %v", l, list, second)
	}
	spoil(l)
	spoil(list)
	if !slices.Equal(second, want) {
		t.Errorf("a change of lists is seen in windows that Merge told: %v", second)
	}
}

// values are a window's, each of them kept.
type values struct {
	s    api.Span
	list []int64
}

// told is what values come to, gone through one by one.
func told(l []values) []api.Pane {
	l = slices.Clone(l)
	slices.SortFunc(l, func(a, b values) int {
		if a.s.Start < b.s.Start || a.s.Start == b.s.Start && a.s.End < b.s.End {
			return -1
		}
		return 1
	})
	var list []api.Pane
	for _, e := range l {
		a := of(len(e.list), 0, slices.Min(e.list), slices.Max(e.list))
		for _, v := range e.list {
			a.Sum += v
		}
		list = append(list, api.Pane{Key: "k", Span: e.s, Agg: a})
	}
	return list
}

// putBy is Put, of values.
func putBy(l []values, s api.Span, v int64) []values {
	var list []values
	here := values{s: s}
	for _, e := range l {
		if e.s == s {
			here = e
		} else {
			list = append(list, e)
		}
	}
	return append(list, values{s, append(slices.Clone(here.list), v)})
}

// shared tells whether two windows from below to above have a time that is in both, by going through all times.
func shared(a, b api.Span, below, above int64) bool {
	for time := below; time <= above; time++ {
		if a.Start <= time && time < a.End && b.Start <= time && time < b.End {
			return true
		}
	}
	return false
}

// mergeBy is Merge, of values of windows from below to above.
func mergeBy(l []values, s api.Span, v, below, above int64) (list []values, gone []api.Span, now api.Span) {
	now = s
	all := []int64{v}
	for _, p := range told(l) {
		i := slices.IndexFunc(l, func(e values) bool { return e.s == p.Span })
		if !shared(l[i].s, s, below, above) {
			list = append(list, l[i])
			continue
		}
		gone = append(gone, l[i].s)
		now = window(min(now.Start, l[i].s.Start), max(now.End, l[i].s.End))
		all = append(all, l[i].list...)
	}
	if gone == nil {
		return putBy(l, s, v), nil, s
	}
	gone = slices.DeleteFunc(gone, func(g api.Span) bool { return g == now })
	return append(list, values{now, all}), gone, now
}

// few calls see with each list of as many windows as n, at most, from the least time to the greatest, as values.
func few(n int, above int64, see func([]values)) {
	var all []api.Span
	for start := range above + 1 {
		for end := range above + 1 {
			all = append(all, window(start, end))
		}
	}
	var choose func(from int, l []values)
	choose = func(from int, l []values) {
		see(l)
		for i := from; i < len(all) && len(l) < n; i++ {
			choose(i+1, append(slices.Clone(l), values{all[i], []int64{1 << len(l), -3}}))
		}
	}
	choose(0, nil)
}

// P7.1, P7.3: of each list of three windows of some times, or fewer, and each window.
func TestEachMerge(t *testing.T) {
	const above = 4
	few(3, above, func(l []values) {
		list := told(l)
		for start := range int64(above + 1) {
			for end := range int64(above + 1) {
				s := window(start, end)
				wantBy, wantGone, wantNow := mergeBy(l, s, 50, 0, above)
				want := told(wantBy)
				got, gone, now := Merge(list, "k", s, 50)
				if !slices.Equal(got, want) || !slices.Equal(gone, wantGone) || now != wantNow {
					t.Fatalf("Merge(%v, k, %v, 50) = %v, %v, %v; want %v, %v, %v", list, s, got, gone, now, want, wantGone, wantNow)
				}
				if got, want := Put(list, "k", s, 50), told(putBy(l, s, 50)); !slices.Equal(got, want) {
					t.Fatalf("Put(%v, k, %v, 50) = %v; want %v", list, s, got, want)
				}
			}
		}
	})
}

// totals are the counts and the sums of all panes.
func totals(l []api.Pane) (count int, sum int64) {
	for _, p := range l {
		count += p.Agg.Count
		sum += p.Agg.Sum
	}
	return count, sum
}

// rises tells whether it is a list as told: by rising windows, each once.
func rises(l []api.Pane) bool {
	for i := 1; i < len(l); i++ {
		a, b := l[i-1].Span, l[i].Span
		if a.Start > b.Start || a.Start == b.Start && a.End >= b.End {
			return false
		}
	}
	return true
}

// edgy are numbers from all of 64 bits, ends and small ones among them more than by chance.
func edgy(r *rand.Rand) int64 {
	switch r.Intn(4) {
	case 0:
		return least + int64(r.Intn(3))
	case 1:
		return most - int64(r.Intn(3))
	case 2:
		return int64(r.Intn(9)) - 4
	}
	return int64(r.Uint64())
}

// P7.3: no value gets lost, and each list is one as told.
func TestCountsAndSumsGrow(t *testing.T) {
	for seed := range int64(300) {
		r := rand.New(rand.NewSource(seed))
		var l []api.Pane
		for range 40 {
			s, v := window(edgy(r), edgy(r)), edgy(r)
			count, sum := totals(l)
			if r.Intn(2) == 0 {
				l = Put(l, "k", s, v)
			} else {
				l, _, _ = Merge(l, "k", s, v)
			}
			newCount, newSum := totals(l)
			if newCount != count+1 || newSum != sum+v {
				t.Fatalf("seed %d: with %d in %v counts and sums went from %d, %d to %d, %d", seed, v, s, count, sum, newCount, newSum)
			}
			if !rises(l) {
				t.Fatalf("seed %d: behind %v it doesn't rise: %v", seed, s, l)
			}
		}
	}
}

// P7.3: with windows that are merged in alone, none ever meets another one.
func TestMergedNoneMeet(t *testing.T) {
	const below, above = -20, 20
	for seed := range int64(300) {
		r := rand.New(rand.NewSource(seed))
		var l []api.Pane
		var by []values
		for range 25 {
			start := below + r.Int63n(above-below)
			s, v := window(start, min(above, start+r.Int63n(7)-1)), edgy(r)
			by, _, _ = mergeBy(by, s, v, below, above)
			l, _, _ = Merge(l, "k", s, v)
			if want := told(by); !slices.Equal(l, want) {
				t.Fatalf("seed %d: behind %v it is %v; want %v", seed, s, l, want)
			}
			for i, a := range l {
				for _, b := range l[:i] {
					if shared(a.Span, b.Span, below, above) {
						t.Fatalf("seed %d: behind %v two meet in %v", seed, s, l)
					}
				}
			}
		}
	}
}

// P1: no call panics, and each ends, where a list isn't one as told: out of order, of one window twice, of no key.
func TestNoPanic(t *testing.T) {
	falling := spanned(window(40, 50), window(20, 30), window(0, 10), window(0, 9))
	twice := spanned(window(0, 10), window(0, 10), window(5, 5), window(5, 5), window(0, 10))
	zeros := make([]api.Pane, 5)
	full := panes(at(0, 10, of(math.MaxInt, most, most, least)), at(5, 15, of(math.MinInt, least, most, least)))
	for _, l := range append(lists(), falling, twice, zeros, full) {
		for _, s := range append(asked(l), window(least, least), window(most, most)) {
			for _, v := range []int64{least, -1, 0, 1, most} {
				Put(l, "", s, v)
				Merge(l, "", s, v)
			}
			Find(l, s)
			Cut(l, s)
		}
	}
}
