package span

import (
	"math"
	"math/big"
	"slices"
	"testing"

	"easel/api"
)

const (
	least = math.MinInt64
	most  = math.MaxInt64
)

func window(start, end int64) api.Span { return api.Span{Start: start, End: end} }

// P2.1
func TestMay(t *testing.T) {
	rows := []struct {
		s    api.Span
		want bool
	}{
		{window(0, 10), true},
		{window(-10, -5), true},
		{window(-5, 5), true},
		{window(0, 1), true},
		{window(-1, 0), true},
		{window(least, most), true},
		{window(least, least+1), true},
		{window(most-1, most), true},
		{window(0, most), true},
		{window(least, 0), true},
		{window(0, 0), false},
		{window(10, 10), false},
		{window(-10, -10), false},
		{window(12, 5), false},
		{window(1, 0), false},
		{window(-5, -10), false},
		{window(least, least), false},
		{window(most, most), false},
		{window(most, least), false},
		{window(most, most-1), false},
		{window(least+1, least), false},
	}
	for _, r := range rows {
		if got := May(r.s); got != r.want {
			t.Errorf("May(%v) = %v; want %v", r.s, got, r.want)
		}
	}
}

// P2.1
func TestHas(t *testing.T) {
	rows := []struct {
		s    api.Span
		time int64
		want bool
	}{
		{window(0, 10), 5, true},
		{window(0, 10), 0, true},
		{window(0, 10), 9, true},
		{window(0, 10), 10, false},
		{window(0, 10), -1, false},
		{window(0, 10), 11, false},
		{window(-10, -5), -10, true},
		{window(-10, -5), -6, true},
		{window(-10, -5), -5, false},
		{window(-10, -5), -11, false},
		{window(4, 5), 4, true},
		{window(4, 5), 3, false},
		{window(4, 5), 5, false},
		{window(least, most), least, true},
		{window(least, most), 0, true},
		{window(least, most), most - 1, true},
		{window(least, most), most, false},
		{window(least, least+1), least, true},
		{window(least, least+1), least + 1, false},
		{window(least, least+1), most, false},
		{window(most-1, most), most - 1, true},
		{window(most-1, most), most, false},
		{window(most-1, most), least, false},
		{window(0, most), least, false},
		{window(least, 0), most, false},
	}
	for _, r := range rows {
		if got := Has(r.s, r.time); got != r.want {
			t.Errorf("Has(%v, %d) = %v; want %v", r.s, r.time, got, r.want)
		}
	}
}

// wrong are windows that may not be.
func wrong() []api.Span {
	return []api.Span{
		window(0, 0), window(7, 7), window(-7, -7), window(least, least), window(most, most),
		window(12, 5), window(1, 0), window(-5, -10), window(10, -10),
		window(most, least), window(most, 0), window(0, least), window(most, most-1), window(least+1, least),
	}
}

// P2.1
func TestHasOfWindowsThatMayNotBe(t *testing.T) {
	for _, s := range wrong() {
		for _, time := range append(numbers(), 4, 5, 6, 7, 11, 12, 13) {
			if Has(s, time) {
				t.Errorf("Has(%v, %d) = true", s, time)
			}
		}
	}
}

// P2.1
func TestMeet(t *testing.T) {
	rows := []struct {
		a, b api.Span
		want bool
	}{
		{window(0, 10), window(5, 15), true},
		{window(0, 10), window(9, 20), true},
		{window(0, 10), window(10, 20), false},
		{window(0, 10), window(11, 20), false},
		{window(0, 10), window(100, 200), false},
		{window(0, 10), window(0, 10), true},
		{window(0, 10), window(3, 7), true},
		{window(0, 10), window(0, 5), true},
		{window(0, 10), window(5, 10), true},
		{window(0, 10), window(0, 1), true},
		{window(0, 10), window(9, 10), true},
		{window(0, 10), window(10, 11), false},
		{window(0, 10), window(-1, 0), false},
		{window(0, 10), window(-1, 1), true},
		{window(-20, -10), window(-11, 0), true},
		{window(-20, -10), window(-10, 0), false},
		{window(least, most), window(0, 1), true},
		{window(least, most), window(least, least+1), true},
		{window(least, most), window(most-1, most), true},
		{window(least, most), window(least, most), true},
		{window(least, 0), window(0, most), false},
		{window(least, 1), window(0, most), true},
		{window(least, least+1), window(most-1, most), false},
		{window(least, least+1), window(least+1, most), false},
		{window(least, most-1), window(most-1, most), false},
	}
	for _, r := range rows {
		if got := Meet(r.a, r.b); got != r.want {
			t.Errorf("Meet(%v, %v) = %v; want %v", r.a, r.b, got, r.want)
		}
		if got := Meet(r.b, r.a); got != r.want {
			t.Errorf("Meet(%v, %v) = %v; want %v", r.b, r.a, got, r.want)
		}
	}
}

// P2.1: not even with the window of nearly all times, in which their Start and their End lie, nor with themselves.
func TestMeetOfWindowsThatMayNotBe(t *testing.T) {
	others := append(wrong(), window(least, most), window(-20, 20), window(0, 10), window(6, 8), window(9, 20))
	for _, a := range wrong() {
		for _, b := range others {
			if Meet(a, b) || Meet(b, a) {
				t.Errorf("Meet(%v, %v) = %v, the other way round %v", a, b, Meet(a, b), Meet(b, a))
			}
		}
	}
}

// P2.1: the last rows have windows that may not be, which Join doesn't ask.
func TestJoin(t *testing.T) {
	rows := []struct{ a, b, want api.Span }{
		{window(0, 10), window(9, 20), window(0, 20)},
		{window(0, 10), window(10, 20), window(0, 20)},
		{window(0, 10), window(15, 20), window(0, 20)},
		{window(0, 10), window(3, 7), window(0, 10)},
		{window(0, 10), window(0, 10), window(0, 10)},
		{window(0, 10), window(0, 5), window(0, 10)},
		{window(0, 10), window(5, 10), window(0, 10)},
		{window(-20, -10), window(-15, -5), window(-20, -5)},
		{window(least, least+1), window(most-1, most), window(least, most)},
		{window(least, most), window(0, 1), window(least, most)},
		{window(0, 10), window(12, 5), window(0, 10)},
		{window(0, 10), window(-3, -8), window(-3, 10)},
		{window(0, 10), window(20, 15), window(0, 15)},
		{window(12, 5), window(9, 3), window(9, 5)},
		{window(12, 5), window(12, 5), window(12, 5)},
		{window(5, 5), window(7, 7), window(5, 7)},
		{window(most, least), window(most, least), window(most, least)},
		{window(most, least), window(0, 0), window(0, 0)},
	}
	for _, r := range rows {
		if got := Join(r.a, r.b); got != r.want {
			t.Errorf("Join(%v, %v) = %v; want %v", r.a, r.b, got, r.want)
		}
		if got := Join(r.b, r.a); got != r.want {
			t.Errorf("Join(%v, %v) = %v; want %v", r.b, r.a, got, r.want)
		}
	}
}

// P2.2: the rows behind the ordinary ones have sums at both ends of 64 bits, beyond them, and late below 0.
func TestOver(t *testing.T) {
	rows := []struct {
		end, late, mark int64
		want            bool
	}{
		{10, 0, 9, false},
		{10, 0, 10, true},
		{10, 0, 11, true},
		{10, 5, 14, false},
		{10, 5, 15, true},
		{10, 6, 15, false},
		{-10, 5, -6, false},
		{-10, 5, -5, true},
		{10, -5, 4, false},
		{10, -5, 5, true},
		{most, 0, most, true},
		{most, 0, most - 1, false},
		{most - 1, 1, most, true},
		{most, 1, most, false},
		{1, most, most, false},
		{0, most, most, true},
		{most, most, most, false},
		{most, most, least, false},
		{most, most, -2, false},
		{1 << 62, 1 << 62, most, false},
		{1 << 62, 1 << 62, least, false},
		{least, 0, least, true},
		{least + 1, -1, least, true},
		{least, -1, least, true},
		{-1, least, least, true},
		{0, least, least, true},
		{1, least, least, false},
		{1, least, least + 1, true},
		{least, least, least, true},
		{least, least, most, true},
		{least, least, -1, true},
		{-1 << 62, -1<<62 - 1, least, true},
		{most, least, -1, true},
		{most, least, -2, false},
		{least, most, -1, true},
		{least, most, -2, false},
	}
	for _, r := range rows {
		// Start plays no part, not even where the window may not be.
		for _, start := range []int64{least, 0, most} {
			if got := Over(window(start, r.end), r.late, r.mark); got != r.want {
				t.Errorf("Over(%v, %d, %d) = %v; want %v", window(start, r.end), r.late, r.mark, got, r.want)
			}
		}
	}
}

// numbers are small ones and those around which sums stop to fit.
func numbers() []int64 {
	return []int64{
		least, least + 1, least + 2, -1<<62 - 1, -1 << 62, -1<<62 + 1, -10, -2, -1,
		0, 1, 2, 10, 1<<62 - 1, 1 << 62, 1<<62 + 1, most - 2, most - 1, most,
	}
}

// P2.2, P1: at every three numbers the answer is that of exact integers.
func TestOverAgainstExactIntegers(t *testing.T) {
	for _, end := range numbers() {
		for _, late := range numbers() {
			sum := new(big.Int).Add(big.NewInt(end), big.NewInt(late))
			for _, mark := range numbers() {
				want := sum.Cmp(big.NewInt(mark)) <= 0
				if got := Over(window(0, end), late, mark); got != want {
					t.Errorf("Over to %d, late %d, mark %d = %v; want %v", end, late, mark, got, want)
				}
			}
		}
	}
}

// P2.2: each row's first comes ahead of its second. The far ones have a difference that doesn't fit.
func TestCompare(t *testing.T) {
	rows := []struct{ first, second api.Span }{
		{window(0, 10), window(9, 20)},
		{window(0, 10), window(1, 5)},
		{window(0, 9), window(0, 10)},
		{window(-5, 5), window(0, 1)},
		{window(-5, -1), window(-4, -2)},
		{window(0, 100), window(1, 2)},
		{window(12, 5), window(12, 6)},
		{window(3, 3), window(12, 5)},
		{window(least, 0), window(most, 0)},
		{window(least, most), window(most, least)},
		{window(0, least), window(0, most)},
		{window(most, least), window(most, most)},
		{window(least, least), window(least, most)},
	}
	for _, r := range rows {
		if got := Compare(r.first, r.second); got != -1 {
			t.Errorf("Compare(%v, %v) = %d; want -1", r.first, r.second, got)
		}
		if got := Compare(r.second, r.first); got != 1 {
			t.Errorf("Compare(%v, %v) = %d; want 1", r.second, r.first, got)
		}
		for _, s := range []api.Span{r.first, r.second} {
			if got := Compare(s, s); got != 0 {
				t.Errorf("Compare(%v, %v) = %d; want 0", s, s, got)
			}
		}
	}
}

// P2.2: rising starts, and rising ends of each start, give a list of which Compare tells the places.
func TestCompareTellsPlaces(t *testing.T) {
	var list []api.Span
	for _, start := range numbers() {
		for _, end := range numbers() {
			list = append(list, window(start, end))
		}
	}
	for i, a := range list {
		for j, b := range list {
			want := 0
			if i < j {
				want = -1
			} else if i > j {
				want = 1
			}
			if got := Compare(a, b); got != want {
				t.Errorf("Compare(%v, %v) = %d; want %d", a, b, got, want)
			}
		}
	}
}

// times are few enough that every window of them can be held against every other, time by time, at 0 and at both ends.
func times() [][]int64 {
	var lists [][]int64
	for _, first := range []int64{-3, least, most - 6} {
		var list []int64
		for d := int64(0); d <= 6; d++ {
			list = append(list, first+d)
		}
		lists = append(lists, list)
	}
	return lists
}

// windows are all from one of the times to one of them, those that may not be among them.
func windows(times []int64) []api.Span {
	var list []api.Span
	for _, start := range times {
		for _, end := range times {
			list = append(list, window(start, end))
		}
	}
	return list
}

// listed are a window's times, gone through one by one as the chapter tells them.
func listed(s api.Span, times []int64) []int64 {
	var list []int64
	for _, time := range times {
		if time >= s.Start && time < s.End {
			list = append(list, time)
		}
	}
	return list
}

// P2.1: a window may be if it has a time, and two meet if a time is in both.
func TestAgainstListedTimes(t *testing.T) {
	for _, near := range times() {
		for _, a := range windows(near) {
			in := listed(a, near)
			if got, want := May(a), len(in) > 0; got != want {
				t.Errorf("May(%v) = %v; want %v", a, got, want)
			}
			for _, time := range near {
				if got, want := Has(a, time), slices.Contains(in, time); got != want {
					t.Errorf("Has(%v, %d) = %v; want %v", a, time, got, want)
				}
			}
			for _, b := range windows(near) {
				both := func(time int64) bool { return slices.Contains(in, time) }
				if got, want := Meet(a, b), slices.ContainsFunc(listed(b, near), both); got != want {
					t.Errorf("Meet(%v, %v) = %v; want %v", a, b, got, want)
				}
			}
		}
	}
}

// P2.3: the windows of numbers are too long to go through, but each Start and End is one of these, so that what holds at one holds up to the next.
func TestTimesOfTheJoin(t *testing.T) {
	for _, asked := range append(times(), numbers()) {
		for _, a := range windows(asked) {
			for _, b := range windows(asked) {
				join, meet := Join(a, b), Meet(a, b)
				for _, time := range asked {
					one, joined := Has(a, time) || Has(b, time), Has(join, time)
					if one && !joined {
						t.Errorf("%d is in %v or %v, not in their join %v", time, a, b, join)
					}
					if meet && joined && !one {
						t.Errorf("%v and %v meet, but %d of their join is in neither", a, b, time)
					}
				}
			}
		}
	}
}
