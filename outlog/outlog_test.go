package outlog

import (
	"bytes"
	"math"
	"math/rand"
	"slices"
	"strings"
	"testing"

	"easel/api"
)

const (
	least = math.MinInt64
	most  = math.MaxInt64
)

// of is a pane of a key's window with no values, where they play no part.
func of(key string, start, end int64) api.Pane {
	return api.Pane{Key: key, Span: api.Span{Start: start, End: end}}
}

// with is a pane with this sum, by which it is told apart from alike ones.
func with(key string, start, end, sum int64) api.Pane {
	p := of(key, start, end)
	p.Agg = api.Agg{Count: 1, Sum: sum, Min: sum, Max: sum}
	return p
}

func panes(l ...api.Pane) []api.Pane { return l }

// logged is a log of these panes, put at once.
func logged(l ...api.Pane) *Log {
	log := New()
	log.Put(l...)
	return log
}

// holds holds a log against the panes that it is to have; the keys are asked one by one, and some that it may not have.
func holds(t *testing.T, l *Log, want ...api.Pane) {
	t.Helper()
	if got := l.All(); !slices.Equal(got, want) {
		t.Errorf("All() = %v; want %v", got, want)
	}
	keys := []string{"", "a", "no such key", "\xff"}
	for _, p := range want {
		keys = append(keys, p.Key, p.Key+"a")
	}
	for _, key := range keys {
		var list []api.Pane
		for _, p := range want {
			if p.Key == key {
				list = append(list, p)
			}
		}
		if got := l.Of(key); !slices.Equal(got, list) {
			t.Errorf("Of(%q) = %v; want %v", key, got, list)
		}
	}
}

// P9.1
func TestNew(t *testing.T) {
	l := New()
	holds(t, l)
	if !l.Fine() {
		t.Error("one without panes isn't fine")
	}
}

// P9.1: none, one, several at once, and again behind those.
func TestPut(t *testing.T) {
	a, b, c := with("a", 0, 10, 1), with("b", 0, 10, 2), with("a", 10, 20, 3)
	d, e := with("c", -5, 5, 4), with("b", 10, 20, 5)
	l := New()
	l.Put()
	holds(t, l)
	l.Put(a)
	holds(t, l, a)
	l.Put()
	holds(t, l, a)
	l.Put(b, c)
	holds(t, l, a, b, c)
	l.Put([]api.Pane{}...)
	l.Put([]api.Pane(nil)...)
	holds(t, l, a, b, c)
	l.Put(d, e)
	l.Put(a)
	holds(t, l, a, b, c, d, e, a)
}

// P9.1: panes come behind as they stand: in no order, more than once, of any key, window and numbers.
func TestPutOfAnyPanes(t *testing.T) {
	list := panes(
		with("b", 10, 20, 1), with("a", 0, 10, 2), with("b", 0, 10, 3), with("b", 10, 20, 1), with("b", 10, 20, 4),
		of("", 5, 5), of("", most, least), of("a\x00", 0, 10), of("\xff", 0, 10), of(strings.Repeat("k", 40), least, most),
		api.Pane{Key: "a", Agg: api.Agg{Count: math.MinInt, Sum: most, Min: most, Max: least}}, api.Pane{},
	)
	holds(t, logged(list...), list...)
	l := New()
	for i, p := range list {
		l.Put(p)
		holds(t, l, list[:i+1]...)
	}
	l.Put(list...)
	holds(t, l, slices.Concat(list, list)...)
	l.Put(l.All()...)
	holds(t, l, slices.Concat(list, list, list, list)...)
}

// P9.1: Of tells the panes of just that key: not of one that begins like it, nor of one with the same letters otherwise written.
func TestOf(t *testing.T) {
	keys := []string{"a", "", "ab", "A", "a\x00", "a ", "b", "é", "e\u0301", "\xe9", "\xff\xfe"}
	l := New()
	for round := range int64(3) {
		for i, key := range keys {
			l.Put(with(key, round, round+1, int64(i)))
		}
	}
	for i, key := range keys {
		v := int64(i)
		want := panes(with(key, 0, 1, v), with(key, 1, 2, v), with(key, 2, 3, v))
		if got := l.Of(key); !slices.Equal(got, want) {
			t.Errorf("Of(%q) = %v; want %v", key, got, want)
		}
	}
	for _, key := range []string{"abc", "B", "e", "\xff", "\x00", "aa"} {
		if got := l.Of(key); len(got) != 0 {
			t.Errorf("Of(%q) = %v; want none", key, got)
		}
	}
}

// P9.1: two logs know nothing of each other.
func TestTwoLogs(t *testing.T) {
	a, b := logged(of("a", 0, 10)), New()
	holds(t, b)
	b.Put(of("a", 0, 10), of("a", 0, 5))
	holds(t, a, of("a", 0, 10))
	if !a.Fine() || b.Fine() {
		t.Errorf("Fine() = %v, %v; want true, false", a.Fine(), b.Fine())
	}
}

// fineRow is what Fine is to tell of some panes.
type fineRow struct {
	name string
	l    []api.Pane
	want bool
}

func checkFine(t *testing.T, rows []fineRow) {
	t.Helper()
	for _, r := range rows {
		l := logged(r.l...)
		for range 2 {
			if got := l.Fine(); got != r.want {
				t.Errorf("%s: Fine() of %v = %v; want %v", r.name, r.l, got, r.want)
			}
		}
		holds(t, l, r.l...)
	}
}

// P9.1
func TestFineOfEnds(t *testing.T) {
	checkFine(t, []fineRow{
		{"none", nil, true},
		{"one", panes(of("a", 0, 10)), true},
		{"one, below 0", panes(of("a", -10, -5)), true},
		{"one, without End", panes(of("a", 0, 0)), true},
		{"rise", panes(of("a", 0, 10), of("a", 10, 20), of("a", 20, 30)), true},
		{"rise by 1", panes(of("a", 0, 10), of("a", 0, 11), of("a", 0, 12)), true},
		{"rise, below 0", panes(of("a", -30, -20), of("a", -20, -10), of("a", -10, -9)), true},
		{"rise, and Starts fall", panes(of("a", 9, 10), of("a", 5, 20), of("a", 0, 30)), true},
		{"alike", panes(of("a", 0, 10), of("a", 5, 10), of("a", 8, 10)), true},
		{"alike, and Starts fall", panes(of("a", 8, 10), of("a", 5, 10), of("a", 0, 10)), true},
		{"alike, below 0", panes(of("a", -30, -20), of("a", -25, -20)), true},
		{"fall by 1", panes(of("a", 0, 10), of("a", 0, 9)), false},
		{"fall by 1, and Starts rise", panes(of("a", 0, 10), of("a", 5, 9)), false},
		{"fall by 1, below 0", panes(of("a", -30, -20), of("a", -30, -21)), false},
		{"fall by 1, to -1", panes(of("a", -5, 0), of("a", -5, -1)), false},
		{"the example", panes(of("a", 0, 10), of("a", 0, 5)), false},
		{"fall behind several that rise", panes(of("a", 0, 10), of("a", 10, 20), of("a", 20, 30), of("a", 21, 29)), false},
		{"fall behind several, above most of them", panes(of("a", 0, 1), of("a", 0, 2), of("a", 0, 9), of("a", 0, 8)), false},
		{"fall behind several that are alike", panes(of("a", 0, 10), of("a", 1, 10), of("a", 2, 10), of("a", 3, 9)), false},
		{"fall at first, and rise then", panes(of("a", 0, 10), of("a", 0, 9), of("a", 0, 20), of("a", 0, 30)), false},
		{"fall in the middle", panes(of("a", 0, 10), of("a", 10, 20), of("a", 5, 15), of("a", 20, 30)), false},
		{"all fall", panes(of("a", 0, 30), of("a", 0, 20), of("a", 0, 10)), false},
	})
}

// P9.1: what values come to plays no part.
func TestFineOfWindowsThatAreThereTwice(t *testing.T) {
	checkFine(t, []fineRow{
		{"one behind the other", panes(of("a", 0, 10), of("a", 0, 10)), false},
		{"one behind the other, of other values", panes(with("a", 0, 10, 1), with("a", 0, 10, 2)), false},
		{"one behind the other, behind others", panes(of("a", 0, 10), of("a", 10, 20), of("a", 20, 30), of("a", 20, 30)), false},
		{"one behind the other, others behind them", panes(of("a", 0, 10), of("a", 0, 10), of("a", 10, 20)), false},
		{"an alike End between", panes(of("a", 0, 10), of("a", 5, 10), of("a", 0, 10)), false},
		{"several alike Ends between", panes(with("a", 0, 10, 1), of("a", 5, 10), of("a", 7, 10), of("a", -7, 10), with("a", 0, 10, 2)), false},
		{"a greater End between", panes(of("a", 0, 10), of("a", 0, 20), of("a", 0, 10)), false},
		{"a lesser End between", panes(of("a", 0, 10), of("a", 0, 5), of("a", 0, 10)), false},
		{"another key between", panes(of("a", 0, 10), of("b", 0, 10), of("a", 0, 10)), false},
		{"of the second key", panes(of("a", 0, 10), of("b", 0, 10), of("b", 0, 10)), false},
		{"three times", panes(of("a", 0, 10), of("a", 0, 10), of("a", 0, 10)), false},
		{"without Start and End", panes(of("a", 0, 0), of("a", 0, 0)), false},
		{"without anything", panes(api.Pane{}, api.Pane{}), false},
		{"below 0", panes(of("a", -20, -10), of("a", -15, -10), of("a", -20, -10)), false},
		{"as it is the other way round", panes(of("a", 5, 10), of("a", 10, 5)), false},
		{"not as it is the other way round", panes(of("a", 10, 5), of("a", 5, 10)), true},
	})
}

// P9.1: each key goes by its own panes.
func TestFineOfKeys(t *testing.T) {
	checkFine(t, []fineRow{
		{"the same window", panes(of("a", 0, 10), of("b", 0, 10)), true},
		{"the same windows, of three", panes(of("a", 0, 10), of("b", 0, 10), of("", 0, 10), of("b", 5, 10), of("", 5, 10), of("a", 5, 10)), true},
		{"Ends fall over two", panes(of("a", 0, 20), of("b", 0, 10)), true},
		{"Ends fall over two, and over again", panes(of("a", 0, 20), of("b", 0, 10), of("a", 5, 20), of("b", 5, 10), of("a", 0, 30), of("b", 0, 11)), true},
		{"Ends fall over two, and over 0", panes(of("a", 0, 10), of("b", -20, -10), of("a", 5, 10), of("b", -10, 0)), true},
		{"Ends rise over two, and fall of one", panes(of("a", 0, 10), of("b", 0, 20), of("a", 0, 9), of("b", 0, 30)), false},
		{"Ends fall of the second", panes(of("b", 0, 10), of("a", 0, 10), of("a", 10, 20), of("a", 10, 19)), false},
		{"Ends fall of one, others between", panes(of("a", 0, 10), of("b", 0, 1), of("c", 0, 2), of("b", 0, 3), of("a", 0, 9)), false},
		{"keys that begin alike", panes(of("a", 0, 10), of("aa", 0, 10), of("aaa", 0, 9), of("a\x00", 0, 8), of("", 0, 7)), true},
		{"keys of bytes that are no text", panes(of("\xff", 0, 10), of("\xfe", 0, 9), of("\xef\xbf\xbd", 0, 8)), true},
		{"the empty one falls", panes(of("", 0, 10), of("a", 0, 10), of("", 0, 9)), false},
		{"one of bytes that are no text falls", panes(of("\xff", 0, 10), of("\xfe", 0, 10), of("\xff", 0, 9)), false},
		{"one that may not be falls", panes(of(strings.Repeat("k", 40), 0, 10), of(strings.Repeat("k", 40), 0, 9)), false},
	})
}

// P9.1: at both ends of 64 bits, where a difference of two wouldn't fit.
func TestFineAtTheEndsOfNumbers(t *testing.T) {
	checkFine(t, []fineRow{
		{"the least alone", panes(of("a", least, least)), true},
		{"the greatest alone", panes(of("a", most, most)), true},
		{"rise from the least to the greatest", panes(of("a", 0, least), of("a", 0, most)), true},
		{"rise by 1 from the least", panes(of("a", 0, least), of("a", 0, least+1)), true},
		{"rise by 1 to the greatest", panes(of("a", 0, most-1), of("a", 0, most)), true},
		{"fall from the greatest to the least", panes(of("a", 0, most), of("a", 0, least)), false},
		{"fall by 1 to the least", panes(of("a", 0, least+1), of("a", 0, least)), false},
		{"fall by 1 from the greatest", panes(of("a", 0, most), of("a", 0, most-1)), false},
		{"fall from 0 to the least", panes(of("a", 0, 0), of("a", 0, least)), false},
		{"alike, the least", panes(of("a", least, least), of("a", most, least), of("a", 0, least)), true},
		{"alike, the greatest", panes(of("a", least, most), of("a", most, most), of("a", 0, most)), true},
		{"twice, the least", panes(of("a", least, least), of("a", 0, least), of("a", least, least)), false},
		{"twice, the greatest", panes(of("a", most, most), of("a", 0, most), of("a", most, most)), false},
		{"fall over two keys", panes(of("a", 0, most), of("b", 0, least), of("a", 1, most), of("b", 0, most)), true},
	})
}

// P9.1: it doesn't matter by which Puts panes came; and what isn't fine doesn't become so.
func TestFineBehindEachPut(t *testing.T) {
	l := New()
	steps := []struct {
		put  []api.Pane
		want bool
	}{
		{nil, true},
		{panes(of("a", 0, 10)), true},
		{panes(of("b", 0, 5), of("a", 5, 10)), true},
		{nil, true},
		{panes(of("b", 0, 6), of("a", 0, 11)), true},
		{panes(of("a", 0, 10)), false},
		{panes(of("a", 0, 12)), false},
		{panes(of("a", 0, 13), of("b", 0, 13), of("c", 0, 1)), false},
	}
	for i, s := range steps {
		l.Put(s.put...)
		if got := l.Fine(); got != s.want {
			t.Errorf("behind step %d, of %v: Fine() = %v; want %v", i, l.All(), got, s.want)
		}
	}
}

// fineBy is what Fine is to tell, each two panes held against each other.
func fineBy(l []api.Pane) bool {
	for j, b := range l {
		for _, a := range l[:j] {
			if a.Key == b.Key && (b.Span.End < a.Span.End || a.Span == b.Span) {
				return false
			}
		}
	}
	return true
}

// few calls do with each list of so many of these panes, or fewer, each as often as there is room.
func few(from []api.Pane, many int, do func([]api.Pane)) {
	var add func([]api.Pane)
	add = func(l []api.Pane) {
		do(l)
		if len(l) == many {
			return
		}
		for _, p := range from {
			add(append(slices.Clip(l), p))
		}
	}
	add(nil)
}

// P9.1: of each list of up to five panes, of two keys, with two Starts and two Ends.
func TestEachFine(t *testing.T) {
	var from []api.Pane
	for _, key := range []string{"a", "b"} {
		from = append(from, of(key, 0, -5), of(key, 0, 5), of(key, 1, -5), of(key, 1, 5))
	}
	few(from, 5, func(l []api.Pane) {
		if got, want := logged(l...).Fine(), fineBy(l); got != want {
			t.Fatalf("Fine() of %v = %v; want %v", l, got, want)
		}
	})
}

// some are panes in no order, few keys and numbers among them, so that many are alike in a part or in all.
func some(r *rand.Rand, many int) []api.Pane {
	keys := []string{"", "a", "aa", "ab", "b", "\x7f", "\x80", "\xff", "\xff\x00", "z"}
	numbers := []int64{least, least + 1, -3, -1, 0, 1, 2, most - 1, most}
	var list []api.Pane
	for i := range many {
		start, end := numbers[r.Intn(len(numbers))], numbers[r.Intn(len(numbers))]
		list = append(list, with(keys[r.Intn(len(keys))], start, end, int64(i)))
	}
	return list
}

// P9.1: many panes, put by lists of any lengths.
func TestManyPuts(t *testing.T) {
	for seed := range int64(100) {
		r := rand.New(rand.NewSource(seed))
		l := New()
		var want []api.Pane
		for range 1 + r.Intn(20) {
			list := some(r, r.Intn(4))
			l.Put(list...)
			want = append(want, list...)
			if l.Fine() != fineBy(want) {
				t.Fatalf("seed %d: Fine() of %v = %v", seed, want, l.Fine())
			}
		}
		holds(t, l, want...)
	}
}

// P9.2
func TestSame(t *testing.T) {
	p := api.Pane{Key: "k", Span: api.Span{Start: 3, End: 13}, Agg: api.Agg{Count: 2, Sum: 4, Min: -1, Max: 5}}
	q, r := with("a", 0, 10, 1), with("b", 0, 10, 2)
	change := func(do func(*api.Pane)) api.Pane {
		c := p
		do(&c)
		return c
	}
	rows := []struct {
		name string
		a, b []api.Pane
		want bool
	}{
		{"nil and nil", nil, nil, true},
		{"nil and an empty list", nil, []api.Pane{}, true},
		{"two empty lists", []api.Pane{}, []api.Pane{}, true},
		{"an empty list with room", make([]api.Pane, 0, 5), nil, true},
		{"one", panes(p), panes(p), true},
		{"several", panes(q, p, r), panes(q, p, r), true},
		{"some there twice", panes(q, q, r), panes(q, q, r), true},
		{"one of nothing", panes(api.Pane{}), panes(api.Pane{}), true},
		{"nil and one", nil, panes(p), false},
		{"nil and one of nothing", nil, panes(api.Pane{}), false},
		{"one more behind", panes(q, p), panes(q, p, r), false},
		{"one more ahead", panes(q, p), panes(r, q, p), false},
		{"one more of the same", panes(q, q), panes(q, q, q), false},
		{"another order", panes(q, r), panes(r, q), false},
		{"another order of three", panes(p, q, r), panes(p, r, q), false},
		{"other ones twice", panes(q, q, r), panes(q, r, r), false},
		{"another one first", panes(p, q, r), panes(r, q, r), false},
		{"another one between", panes(q, p, r), panes(q, r, r), false},
		{"another one last", panes(q, p, r), panes(q, p, p), false},
		{"Key", panes(p), panes(change(func(c *api.Pane) { c.Key = "K" })), false},
		{"Key, longer", panes(p), panes(change(func(c *api.Pane) { c.Key = "k\x00" })), false},
		{"no Key", panes(p), panes(change(func(c *api.Pane) { c.Key = "" })), false},
		{"Start", panes(p), panes(change(func(c *api.Pane) { c.Span.Start++ })), false},
		{"End", panes(p), panes(change(func(c *api.Pane) { c.Span.End++ })), false},
		{"Count", panes(p), panes(change(func(c *api.Pane) { c.Agg.Count++ })), false},
		{"Sum", panes(p), panes(change(func(c *api.Pane) { c.Agg.Sum++ })), false},
		{"Min", panes(p), panes(change(func(c *api.Pane) { c.Agg.Min-- })), false},
		{"Max", panes(p), panes(change(func(c *api.Pane) { c.Agg.Max++ })), false},
		{"Start, by the highest bit", panes(p), panes(change(func(c *api.Pane) { c.Span.Start ^= least })), false},
		{"Sum, by the highest bit", panes(q, p), panes(q, change(func(c *api.Pane) { c.Agg.Sum ^= least })), false},
		{"Start and End changed over", panes(p), panes(change(func(c *api.Pane) { c.Span = api.Span{Start: 13, End: 3} })), false},
	}
	for _, row := range rows {
		if got := Same(row.a, row.b); got != row.want {
			t.Errorf("%s: Same(%v, %v) = %v; want %v", row.name, row.a, row.b, got, row.want)
		}
		if got := Same(row.b, row.a); got != row.want {
			t.Errorf("%s: Same(%v, %v) = %v; want %v", row.name, row.b, row.a, got, row.want)
		}
		if !Same(row.a, row.a) || !Same(row.a, slices.Clone(row.a)) {
			t.Errorf("%s: %v isn't the same as itself", row.name, row.a)
		}
	}
}

// P9.2: lists that share their memory go by what stands in each of them.
func TestSameOfPiecesOfOneList(t *testing.T) {
	l := panes(of("a", 0, 10), of("b", 0, 10), of("a", 0, 10), of("b", 0, 10))
	if !Same(l[:2], l[2:]) || Same(l[:2], l[1:3]) || Same(l, l[:3]) || Same(l[:0], l[:1]) || !Same(l[:0], l[4:]) {
		t.Errorf("of pieces of %v it is told otherwise", l)
	}
}

// P9.2: the answers to Sorted are written out whole.
func TestSorted(t *testing.T) {
	rows := []struct {
		name    string
		l, want []api.Pane
	}{
		{"none", nil, nil},
		{"an empty list", []api.Pane{}, nil},
		{"one", panes(of("b", 0, 10)), panes(of("b", 0, 10))},
		{"one of nothing", panes(api.Pane{}), panes(api.Pane{})},
		{"sorted already", panes(of("a", 0, 10), of("a", 0, 11), of("b", 0, 5)), panes(of("a", 0, 10), of("a", 0, 11), of("b", 0, 5))},
		{"by keys, whatever the windows", panes(of("c", 0, 1), of("b", 5, 6), of("a", 7, 9)), panes(of("a", 7, 9), of("b", 5, 6), of("c", 0, 1))},
		{"by Ends, whatever the Starts", panes(of("a", 0, 30), of("a", 5, 20), of("a", 9, 10)), panes(of("a", 9, 10), of("a", 5, 20), of("a", 0, 30))},
		{"by Starts", panes(of("a", 9, 10), of("a", 0, 10), of("a", -5, 10)), panes(of("a", -5, 10), of("a", 0, 10), of("a", 9, 10))},
		{"Ends below 0", panes(of("a", 0, 1), of("a", 0, -1), of("a", 0, 0), of("a", 0, -2)),
			panes(of("a", 0, -2), of("a", 0, -1), of("a", 0, 0), of("a", 0, 1))},
		{"not by values", panes(with("a", 9, 10, -5), with("a", 0, 10, 5), with("a", 0, 9, 9)), panes(with("a", 0, 9, 9), with("a", 0, 10, 5), with("a", 9, 10, -5))},
		{"alike ones as they stand", panes(with("b", 0, 10, 2), with("a", 0, 10, 9), with("b", 0, 10, 1), with("a", 0, 10, 3), with("b", 0, 10, 5)),
			panes(with("a", 0, 10, 9), with("a", 0, 10, 3), with("b", 0, 10, 2), with("b", 0, 10, 1), with("b", 0, 10, 5))},
		{"the same one twice", panes(of("b", 0, 10), of("a", 0, 10), of("b", 0, 10)), panes(of("a", 0, 10), of("b", 0, 10), of("b", 0, 10))},
		{"windows that may not be", panes(of("a", 9, 9), of("a", 10, 5), of("a", 3, 5), of("a", 5, 5)), panes(of("a", 3, 5), of("a", 5, 5), of("a", 10, 5), of("a", 9, 9))},
		{"Ends and Starts at the ends of numbers",
			panes(of("a", 0, most), of("a", most, least), of("a", least, most), of("a", 0, least), of("a", most, most), of("a", least, least), of("a", 0, 0), of("a", 0, most-1), of("a", 0, least+1)),
			panes(of("a", least, least), of("a", 0, least), of("a", most, least), of("a", 0, least+1), of("a", 0, 0), of("a", 0, most-1), of("a", least, most), of("a", 0, most), of("a", most, most))},
	}
	for _, r := range rows {
		before := slices.Clone(r.l)
		got := Sorted(r.l)
		if !slices.Equal(got, r.want) {
			t.Errorf("%s: Sorted(%v) = %v; want %v", r.name, before, got, r.want)
		}
		if !slices.Equal(r.l, before) {
			t.Errorf("%s: %v, that was handed in, is now %v", r.name, before, r.l)
		}
		if again := Sorted(got); !slices.Equal(again, r.want) {
			t.Errorf("%s: %v sorted again is %v", r.name, got, again)
		}
	}
}

// P9.2: keys go by their bytes, as numbers from 0 to 255; one that is the beginning of another one comes first.
func TestSortedByBytes(t *testing.T) {
	keys := []string{
		"", "\x00", "\x00\x00", "\x00a", " ", "A", "B", "Z", "a", "a\x00", "a\x01", "aB", "aa", "aaa", "ab", "az", "a\x7f", "a\x80", "a\xff",
		"b", "z", "\x7f", "\x80", "\x80a", "\xc3", "é", "é\x00", "ê", "\xe2\x82", "€", "😀", "\xfe", "\xff", "\xff\x00", "\xff\xff",
	}
	var want []api.Pane
	for i, key := range keys {
		// Ends fall: so they would turn the order round, if they came ahead of keys.
		want = append(want, of(key, 0, int64(-i)))
	}
	for seed := range int64(50) {
		l := slices.Clone(want)
		rand.New(rand.NewSource(seed)).Shuffle(len(l), func(i, j int) { l[i], l[j] = l[j], l[i] })
		if got := Sorted(l); !slices.Equal(got, want) {
			t.Fatalf("Sorted(%v) = %v; want %v", l, got, want)
		}
	}
}

// above tells whether a has to stand behind b: the order once more, number by number.
func above(a, b api.Pane) bool {
	if c := bytes.Compare([]byte(a.Key), []byte(b.Key)); c != 0 {
		return c > 0
	}
	if a.Span.End != b.Span.End {
		return a.Span.End > b.Span.End
	}
	return a.Span.Start > b.Span.Start
}

// sortedBy is what Sorted is to tell: each pane in its turn goes ahead of those that have to stand behind it.
func sortedBy(l []api.Pane) []api.Pane {
	var list []api.Pane
	for _, p := range l {
		i := len(list)
		for i > 0 && above(list[i-1], p) {
			i--
		}
		list = slices.Insert(list, i, p)
	}
	return list
}

// counted is how often each pane is in a list.
func counted(l []api.Pane) map[api.Pane]int {
	m := map[api.Pane]int{}
	for _, p := range l {
		m[p]++
	}
	return m
}

func sortsRight(t *testing.T, l []api.Pane) {
	t.Helper()
	before := slices.Clone(l)
	got, want := Sorted(l), sortedBy(l)
	if !slices.Equal(got, want) {
		t.Fatalf("Sorted(%v) = %v; want %v", before, got, want)
	}
	if !slices.Equal(l, before) {
		t.Fatalf("%v, that was handed in, is now %v", before, l)
	}
	counts := counted(got)
	for p, n := range counted(before) {
		if counts[p] != n {
			t.Fatalf("Sorted(%v) = %v has %v %d times; want %d", before, got, p, counts[p], n)
		}
	}
	if len(got) != len(before) {
		t.Fatalf("Sorted(%v) = %v has %d panes; want %d", before, got, len(got), len(before))
	}
	if again := Sorted(got); !slices.Equal(again, got) {
		t.Fatalf("%v sorted again is %v", got, again)
	}
}

// P9.2, P9.4: each list of up to four panes.
func TestEachSorted(t *testing.T) {
	from := panes(of("a", 0, 5), with("a", 0, 5, 1), of("a", 1, 5), of("a", 1, 4), of("a", 0, 6), of("", 0, 5), of("aa", 0, 4), of("\xff", 1, 4))
	few(from, 4, func(l []api.Pane) { sortsRight(t, l) })
}

// P9.2, P9.4: long lists too, of many that are alike but for their values.
func TestManySorted(t *testing.T) {
	for seed := range int64(300) {
		r := rand.New(rand.NewSource(seed))
		l := some(r, r.Intn(100))
		for range r.Intn(20) {
			if len(l) > 0 {
				l = append(l, l[r.Intn(len(l))])
			}
		}
		sortsRight(t, l)
	}
	var l []api.Pane
	for i := range int64(2000) {
		l = append(l, with("k", 0, i%3, i))
	}
	sortsRight(t, l)
}

// P9.2: what is told of a log, sorted, is the same for whatever order its panes came in, if no two are alike.
func TestSortedOfAnyOrder(t *testing.T) {
	l := panes(of("a", 0, 10), of("a", 5, 10), of("a", 0, 20), of("b", 0, 5), of("", 7, 9), of("b", -5, 5))
	want := panes(of("", 7, 9), of("a", 0, 10), of("a", 5, 10), of("a", 0, 20), of("b", -5, 5), of("b", 0, 5))
	for seed := range int64(200) {
		r := rand.New(rand.NewSource(seed))
		r.Shuffle(len(l), func(i, j int) { l[i], l[j] = l[j], l[i] })
		if got := Sorted(logged(l...).All()); !Same(got, want) {
			t.Fatalf("put as %v they are sorted to %v; want %v", l, got, want)
		}
	}
}

// spoil writes over all of a list, and over the room behind it.
func spoil(l []api.Pane) {
	l = l[:cap(l)]
	for i := range l {
		l[i] = with("spoilt", -1, -2, -3)
	}
}

// P9.3: a change of what was told isn't seen in the log, nor in what is told another time.
func TestWhatIsToldIsNewMemory(t *testing.T) {
	list := panes(with("a", 0, 10, 1), with("b", 0, 10, 2), with("a", 10, 20, 3), with("a", 20, 30, 4), with("c", 0, 10, 5))
	for many := range len(list) + 1 {
		// Logs that were put at once, and one by one, have other room behind their panes.
		one := New()
		for _, p := range list[:many] {
			one.Put(p)
		}
		for _, l := range []*Log{logged(list[:many]...), one} {
			for _, ask := range []func() []api.Pane{l.All, func() []api.Pane { return l.Of("a") }, func() []api.Pane { return l.Of("c") }} {
				told, other := ask(), ask()
				kept := slices.Clone(other)
				spoil(told)
				_ = append(told, with("more", 0, 1, 9))
				holds(t, l, list[:many]...)
				if !slices.Equal(other, kept) {
					t.Errorf("of %v, what was told another time, there is now %v", kept, other)
				}
				spoil(other)
			}
			if !l.Fine() {
				t.Errorf("behind a change of what was told %v isn't fine", l.All())
			}
			holds(t, l, list[:many]...)
		}
	}
}

// P9.3: a change of the log isn't seen in what was told ahead of it, nor does it need the room that is behind that.
func TestWhatWasToldStays(t *testing.T) {
	a, b, c := with("a", 0, 10, 1), with("a", 10, 20, 2), with("b", 0, 10, 3)
	l := New()
	var put []api.Pane
	for i := range 20 {
		all, ofA := l.All(), l.Of("a")
		keptAll, keptOfA := append(slices.Clone(all), c), append(slices.Clone(ofA), c)
		all, ofA = append(all, c), append(ofA, c)
		list := panes(a, b, a)[:i%4]
		l.Put(list...)
		put = append(put, list...)
		if !slices.Equal(all, keptAll) || !slices.Equal(ofA, keptOfA) {
			t.Errorf("behind a Put of %v, what was told ahead of it is %v, %v; want %v, %v", list, all, ofA, keptAll, keptOfA)
		}
		holds(t, l, put...)
	}
}

// P9.3, R2: what is sorted shares nothing with what was handed in.
func TestWhatIsSortedIsNewMemory(t *testing.T) {
	rows := [][]api.Pane{
		panes(of("a", 0, 10)),
		panes(of("a", 0, 10), of("b", 0, 10)),
		panes(of("b", 0, 10), of("a", 0, 10)),
		panes(of("c", 0, 10), of("a", 0, 10), of("b", 0, 5), of("a", 0, 10)),
	}
	for _, l := range rows {
		want := sortedBy(l)
		roomy := append(make([]api.Pane, 0, 20), l...)
		behind := slices.Clone(roomy[:cap(roomy)])
		got, other := Sorted(roomy), Sorted(roomy)
		spoil(got)
		if !slices.Equal(roomy[:cap(roomy)], behind) {
			t.Errorf("behind a change of what was sorted, what was handed in is %v; want %v", roomy[:cap(roomy)], behind)
		}
		spoil(roomy)
		if !slices.Equal(other, want) {
			t.Errorf("behind a change of what was handed in, what was sorted is %v; want %v", other, want)
		}
	}
}

// R2: a list whose panes are put isn't kept: not when the log is new, and not when it has some already.
func TestPutKeepsNoList(t *testing.T) {
	first := panes(with("a", 0, 10, 1), with("b", 0, 10, 2))
	second := panes(with("a", 10, 20, 3), with("a", 20, 30, 4), with("b", 10, 20, 5))
	l := New()
	var want []api.Pane
	for _, list := range [][]api.Pane{first, second, nil, first, second} {
		for _, room := range []int{0, 1, 30} {
			handed := append(make([]api.Pane, 0, len(list)+room), list...)
			l.Put(handed...)
			want = append(want, list...)
			spoil(handed)
			holds(t, l, want...)
		}
	}
}

// R2: nor is it changed, nor the room behind it, by that Put, or by any later call.
func TestPutChangesNoList(t *testing.T) {
	for many := range 5 {
		roomy := make([]api.Pane, 10)
		for i := range roomy {
			roomy[i] = with("b", int64(-i), int64(10+i), int64(i))
		}
		kept := slices.Clone(roomy)
		l := New()
		l.Put(roomy[:many]...)
		l.Put(with("a", 0, 10, 1))
		l.Put(roomy[:many]...)
		l.Put(with("a", 0, 10, 2), with("a", 0, 10, 3))
		spoil(l.All())
		spoil(l.Of("b"))
		Sorted(roomy[:many])
		Same(roomy[:many], l.All())
		l.Fine()
		if !slices.Equal(roomy, kept) {
			t.Errorf("behind a Put of %d of them, %v are now %v", many, kept, roomy)
		}
	}
}

// P1: no call panics, and each ends, whatever panes it is handed.
func TestNoPanic(t *testing.T) {
	numbers := []int64{least, -1, 0, 1, most}
	var l []api.Pane
	for _, key := range []string{"", "\xff", strings.Repeat("k", 1000)} {
		for _, start := range numbers {
			for _, end := range numbers {
				l = append(l, of(key, start, end), api.Pane{Key: key, Span: api.Span{Start: start, End: end}, Agg: api.Agg{Count: math.MinInt, Sum: least, Min: most, Max: least}})
			}
		}
	}
	log := New()
	for i := range l {
		log.Put(l[:i]...)
		log.Of(l[i].Key)
		log.Fine()
		Same(log.All(), l[i:])
		Sorted(l[i:])
	}
}
