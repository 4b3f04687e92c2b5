package hist

import (
	"math"
	"slices"
	"testing"

	"easel/api"
)

const (
	least = math.MinInt
	most  = math.MaxInt
)

// P19.1: a history of no events is fine.
func TestFineOfNone(t *testing.T) {
	fine(t, true)
	for _, l := range [][]api.Event{nil, {}, make([]api.Event, 0, 5), make([]api.Event, 5)[:0]} {
		fine(t, true, l...)
	}
}

// others are events of two clients, far from those of small ticks, of which each may be.
func others() []api.Event {
	return []api.Event{at(70, 0, 5000, 5005, 5007), at(71, 0, 5001, 5003, 5003), at(70, 1, 5008, 0, 0)}
}

// among has an event alone, and ahead of, between, and behind others.
func among(e api.Event) [][]api.Event {
	l := [][]api.Event{{e}}
	for i := range len(others()) + 1 {
		l = append(l, slices.Insert(others(), i, e))
	}
	return l
}

// P19.1: one event of each kind, at the edges of its numbers, alone and among others.
func TestFineOfOne(t *testing.T) {
	for _, e := range []api.Event{
		at(0, 0, 1, 0, 0), at(0, 0, 2, 0, 0), at(0, 0, most, 0, 0), // begun alone
		at(0, 0, 1, 1, 0), at(0, 0, 1, 2, 0), at(0, 0, 9, 9, 0), at(0, 0, 1, most, 0), at(0, 0, most, most, 0), // with a point
		at(0, 0, 1, 2, 3), at(0, 0, 1, 2, 2), at(0, 0, 1, 1, 2), at(0, 0, 3, 900, 4000), at(0, 0, 1, 2, most), // done
		at(0, 0, 1, most, most), at(0, 0, most-2, most-1, most),
		at(0, 0, 1, 1, 1), at(0, 0, 7, 7, 7), at(0, 0, most, most, most), // three times the same tick
		at(1, 0, 1, 0, 0), at(5, 0, 1, 2, 0), at(1<<32, 0, 1, 2, 3), at(most-1, 0, 4, 4, 4), at(most, 0, 1, 2, 3), // of any client
	} {
		for _, l := range among(e) {
			fine(t, true, l...)
		}
	}
}

// P19.1: each condition of one event, broken by itself, at its edge and far from it, alone and among others. (An N below 0 is
// never in its turn.)
func TestOneBroken(t *testing.T) {
	for _, e := range []api.Event{
		at(-1, 0, 1, 2, 3), at(-1, 0, 1, 0, 0), at(-2, 0, 1, 2, 0), at(-1<<32, 0, 1, 1, 1), at(least+1, 0, 1, 2, 3), at(least, 0, 1, 2, 3), at(least, 0, 1, 0, 0),
		at(0, -1, 1, 2, 3), at(0, -1, 1, 0, 0), at(0, -2, 1, 2, 0), at(0, -1<<32, 1, 1, 1), at(0, least+1, 1, 2, 3), at(0, least, 1, 2, 3), at(0, least, 1, 0, 0),
		// Begin
		at(0, 0, 0, 0, 0), at(0, 0, 0, 1, 0), at(0, 0, 0, 1, 1), at(0, 0, 0, 2, 3), at(0, 0, 0, most, most),
		at(0, 0, -1, 0, 0), at(0, 0, -1, 2, 0), at(0, 0, -1, 1, 1), at(0, 0, least, 0, 0), at(0, 0, least, 2, 3), at(0, 0, least+1, most, most),
		// Point, below 0
		at(0, 0, 1, -1, 0), at(0, 0, 5, -1, 0), at(0, 0, 1, -2, 0), at(0, 0, 1, -1, 1), at(0, 0, 1, -1, 5), at(0, 0, most, least, 0), at(0, 0, 1, least, 0), at(0, 0, 1, least, most), at(0, 0, 1, least+1, 0),
		// above 0, and below Begin
		at(0, 0, 2, 1, 0), at(0, 0, 2, 1, 1), at(0, 0, 2, 1, 2), at(0, 0, 9, 8, 0), at(0, 0, 9, 8, 9), at(0, 0, 9, 1, 0), at(0, 0, 9, 1, 12), at(0, 0, most, most-1, 0), at(0, 0, most, most-1, most), at(0, 0, most, 1, 0),
		// End, below 0
		at(0, 0, 1, 0, -1), at(0, 0, 1, 0, -9), at(0, 0, 1, 0, least), at(0, 0, 1, 2, -1), at(0, 0, 1, 1, -1), at(0, 0, 1, 2, least), at(0, 0, 1, most, least), at(0, 0, most, most, -most),
		// above 0, where Point is 0
		at(0, 0, 1, 0, 1), at(0, 0, 1, 0, 2), at(0, 0, 5, 0, 4), at(0, 0, 5, 0, 5), at(0, 0, 5, 0, 6), at(0, 0, 1, 0, most), at(0, 0, most, 0, most),
		// above 0, and below Point
		at(0, 0, 1, 2, 1), at(0, 0, 2, 2, 1), at(0, 0, 1, 9, 8), at(0, 0, 5, 9, 7), at(0, 0, 5, 9, 1), at(0, 0, 1, most, most-1), at(0, 0, 1, most, 1), at(0, 0, most, most, most-1),
	} {
		for _, l := range among(e) {
			fine(t, false, l...)
		}
	}
}

// some are events of several clients, of which each may be; those of one client aren't side by side.
func some() []api.Event {
	return []api.Event{
		at(0, 0, 1, 3, 4), at(1, 0, 2, 2, 6), at(2, 0, 5, 0, 0), at(0, 1, 7, 8, 10), at(1, 1, 9, 9, 0), at(0, 2, 11, 0, 0), at(3, 0, 12, 12, 12),
	}
}

// P19.1: one turn of one number, and what was fine isn't any more; or it is, where no condition is broken.
func TestOneTurned(t *testing.T) {
	fine(t, true, some()...)
	for i, row := range []struct {
		want bool
		turn func(l []api.Event)
	}{
		{false, func(l []api.Event) { l[0].Client = -1 }},
		{false, func(l []api.Event) { l[2].Client = -1 }},
		{false, func(l []api.Event) { l[6].Client = least }},
		{true, func(l []api.Event) { l[2].Client = 4 }},
		{true, func(l []api.Event) { l[6].Client = most }},
		{false, func(l []api.Event) { l[2].Client = 3 }}, // it is of one that has that N
		{false, func(l []api.Event) { l[6].Client = 0 }},
		{false, func(l []api.Event) { l[6].Client = 2 }},
		{false, func(l []api.Event) { l[3].Client = 9 }}, // its first one isn't 0
		{false, func(l []api.Event) { l[0].N = 1 }},
		{false, func(l []api.Event) { l[3].N = 0 }},
		{false, func(l []api.Event) { l[3].N = 2 }},
		{false, func(l []api.Event) { l[5].N = 1 }},
		{false, func(l []api.Event) { l[5].N = 3 }},
		{false, func(l []api.Event) { l[6].N = 1 }},
		{false, func(l []api.Event) { l[6].N = -1 }},
		{false, func(l []api.Event) { l[0].Begin = 0 }},
		{false, func(l []api.Event) { l[2].Begin = 0 }},
		{false, func(l []api.Event) { l[5].Begin = -1 }},
		{false, func(l []api.Event) { l[0].Begin = 4 }},
		{true, func(l []api.Event) { l[0].Begin = 3 }},
		{false, func(l []api.Event) { l[3].Begin = 4 }}, // the one ahead of it is done then
		{true, func(l []api.Event) { l[3].Begin = 5 }},
		{false, func(l []api.Event) { l[5].Begin = 10 }},
		{false, func(l []api.Event) { l[5].Begin = 1 }},
		{false, func(l []api.Event) { l[4].Begin = 6 }},
		{true, func(l []api.Event) { l[4].Begin = 7 }},
		{true, func(l []api.Event) { l[2].Begin = 1 }},
		{false, func(l []api.Event) { l[0].Point = 2 }}, // another one's
		{false, func(l []api.Event) { l[6].Point, l[6].Begin = 3, 1 }},
		{true, func(l []api.Event) { l[0].Point = 4 }},
		{true, func(l []api.Event) { l[0].Point = 1 }},
		{false, func(l []api.Event) { l[0].Point = 5 }}, // it is done ahead of it
		{false, func(l []api.Event) { l[0].Point = 0 }},
		{false, func(l []api.Event) { l[0].Point = -1 }},
		{false, func(l []api.Event) { l[2].Point = 4 }},
		{true, func(l []api.Event) { l[2].Point = 5 }},
		{false, func(l []api.Event) { l[2].Point = 9 }},
		{true, func(l []api.Event) { l[4].Point = 0 }},
		{false, func(l []api.Event) { l[4].Point = -9 }},
		{false, func(l []api.Event) { l[0].End = 0 }}, // it isn't the last one
		{false, func(l []api.Event) { l[3].End = 0 }},
		{false, func(l []api.Event) { l[3].End, l[3].Point = 0, 0 }},
		{false, func(l []api.Event) { l[0].End = 7 }},
		{true, func(l []api.Event) { l[0].End = 6 }},
		{false, func(l []api.Event) { l[0].End = 2 }},
		{true, func(l []api.Event) { l[0].End = 3 }},
		{false, func(l []api.Event) { l[3].End = 11 }},
		{false, func(l []api.Event) { l[3].End = most }},
		{false, func(l []api.Event) { l[3].End = -1 }},
		{false, func(l []api.Event) { l[5].End = 11 }},
		{false, func(l []api.Event) { l[5].End = -11 }},
		{true, func(l []api.Event) { l[4].End = 9 }},
		{true, func(l []api.Event) { l[6].End = 0 }},
		{true, func(l []api.Event) { l[6].End = most }},
		{false, func(l []api.Event) { l[6].End = 11 }},
	} {
		l := some()
		row.turn(l)
		if fineBy(l) != row.want {
			t.Fatalf("row %d: by the words it is %t", i, !row.want)
		}
		fine(t, row.want, l...)
	}
}

// P19.1: no two have one Point.
func TestOnePointTwice(t *testing.T) {
	between := []api.Event{at(10, 0, 1, 1, 1), at(11, 0, 1, 0, 0), at(10, 1, 20, 20, 0), at(12, 0, 2, 90, 91), at(13, 0, 1, 7, 8)}
	fine(t, true, between...)
	for _, pair := range [][2]api.Event{
		{at(0, 0, 1, 5, 6), at(1, 0, 1, 5, 6)},
		{at(0, 0, 1, 5, 6), at(1, 0, 5, 5, 0)},
		{at(0, 0, 1, 5, 0), at(1, 0, 2, 5, 0)},
		{at(3, 0, 4, 5, 5), at(2, 0, 1, 5, 900)},
		{at(3, 0, 1, most, 0), at(2, 0, 2, most, most)},
		{at(0, 0, 2, 2, 2), at(most, 0, 2, 2, 2)},
	} {
		a, b := pair[0], pair[1]
		for i := range len(between) + 1 {
			for k := i; k <= len(between); k++ {
				// a stands somewhere, and b side by side with it, or far from it.
				l := slices.Insert(slices.Insert(slices.Clone(between), k, b), i, a)
				fine(t, false, l...)
				l[i], l[k+1] = b, a
				fine(t, false, l...)
				l[k+1].Point = 0
				l[k+1].End = 0
				fine(t, true, l...)
			}
		}
	}
	// Three of them, and two times two.
	fine(t, false, at(0, 0, 1, 5, 6), at(1, 0, 1, 5, 6), at(2, 0, 1, 5, 6))
	fine(t, false, at(0, 0, 1, 5, 6), at(1, 0, 1, 6, 6), at(2, 0, 1, 5, 6), at(3, 0, 1, 6, 6))
	// Points that are alike but for their highest bits.
	fine(t, true, at(0, 0, 1, 5, 0), at(1, 0, 1, 5+1<<32, 0), at(2, 0, 1, 5+1<<62, 0), at(3, 0, 1, 5+1<<16, 0))
}

// P19.1: of one client, too; there the one can't be ahead of the other one then.
func TestOnePointTwiceOfOneClient(t *testing.T) {
	fine(t, false, at(0, 0, 1, 5, 5), at(0, 1, 5, 5, 5))
	fine(t, false, at(0, 0, 1, 5, 5), at(0, 1, 5, 5, 0))
	fine(t, false, at(0, 0, 1, 5, 5), at(1, 0, 2, 3, 4), at(1, 1, 5, 6, 7), at(0, 1, 4, 5, 9))
	fine(t, false, at(0, 0, 1, 2, 3), at(0, 1, 4, 5, 6), at(0, 2, 1, 2, 9))
}

// P19.1: several may have no Point: they are the last ones of their clients.
func TestManyWithoutPoint(t *testing.T) {
	fine(t, true, at(0, 0, 1, 0, 0), at(1, 0, 1, 0, 0))
	fine(t, true, at(0, 0, 1, 0, 0), at(1, 0, 2, 0, 0), at(2, 0, 3, 0, 0), at(3, 0, 3, 3, 3), at(4, 0, 1, 0, 0))
	fine(t, true, at(0, 0, 1, 2, 3), at(1, 0, 2, 0, 0), at(0, 1, 4, 0, 0), at(2, 0, 5, 6, 6), at(2, 1, 7, 0, 0))
	fine(t, false, at(0, 0, 1, 0, 0), at(0, 1, 2, 0, 0))
	fine(t, false, at(0, 0, 1, 0, 0), at(1, 0, 1, 0, 0), at(0, 1, 2, 3, 4))
}

// one are events of a client, of these N: each is ahead of the next one.
func one(client int, ns ...int) []api.Event {
	var l []api.Event
	for i, n := range ns {
		l = append(l, at(client, n, 10*i+1+client%5, 10*i+3+client%5, 10*i+9))
	}
	return l
}

// turns are lists of N, and whether they are as they have to be.
func turns() map[bool][][]int {
	return map[bool][][]int{
		true: {{}, {0}, {0, 1}, {0, 1, 2}, {0, 1, 2, 3, 4, 5, 6, 7, 8, 9}},
		false: {
			{1}, {2}, {-1}, {most}, {least}, {1 << 32}, // a first one that isn't 0
			{1, 2}, {1, 2, 3}, {1, 1}, {-1, 0}, {-1, 0, 1}, {2, 3}, {most, least}, {most, 0}, {most - 1, most},
			{0, 2}, {0, 3}, {0, 1, 3}, {0, 2, 3}, {0, 1, 2, 4}, {0, 1, 3, 4, 5}, {0, most}, {0, 1, most}, {0, 1<<32 + 1}, {0, 1, 1<<32 + 2}, // one left out
			{0, 0}, {0, 0, 1}, {0, 1, 1}, {0, 1, 1, 2}, {0, 1, 0}, {0, 1, 2, 2}, {0, 1, 2, 0}, {0, 1, 2, 1, 3}, // one twice
			{1, 0}, {1, 0, 2}, {0, 2, 1}, {0, 1, 3, 2}, {2, 1, 0}, {2, 0, 1}, {1, 2, 0}, {0, 2, 1, 3}, // one ahead of its turn
			{0, -1}, {0, -1, 1}, {0, 1, -1}, {0, 1, -2}, {0, least}, {0, 1, least}, {0, -1, -2},
		},
	}
}

// P19.1: of a client's events, as they stand, N is 0, 1, 2 and so on.
func TestTurns(t *testing.T) {
	for want, rows := range turns() {
		for _, ns := range rows {
			for _, client := range []int{0, 1, 3, 1 << 40, most} {
				fine(t, want, one(client, ns...)...)
			}
		}
	}
}

// P19.1: likewise with other clients' events in between, whose N are their own.
func TestTurnsAmongOthers(t *testing.T) {
	for want, rows := range turns() {
		for _, ns := range rows {
			for _, its := range [][]int{{0}, {0, 1}, {0, 1, 2, 3, 4, 5}} {
				for gap := 1; gap < 4; gap++ {
					l := woven(one(1, ns...), one(3, its...), gap)
					fine(t, want, l...)
					fine(t, want, woven(one(3, its...), one(1, ns...), gap)...)
					fine(t, want, woven(l, one(most, 0, 1, 2), gap)...)
				}
			}
		}
	}
	// The numbers of two clients make 0, 1, 2 together, and those of neither do.
	fine(t, false, at(0, 0, 1, 2, 3), at(1, 1, 4, 5, 6), at(0, 2, 7, 8, 9))
	fine(t, false, at(0, 0, 1, 2, 3), at(1, 1, 4, 5, 6))
	fine(t, true, at(0, 0, 1, 2, 3), at(1, 0, 4, 5, 6), at(0, 1, 7, 8, 9))
}

// woven has so many of the one behind each of the other.
func woven(a, b []api.Event, gap int) []api.Event {
	var l []api.Event
	for len(a) > 0 {
		n := min(gap, len(b))
		l = append(append(l, a[0]), b[:n]...)
		a, b = a[1:], b[n:]
	}
	return append(l, b...)
}

// P19.1: each of a client's events but the last one is ahead of the next one.
func TestNextOnes(t *testing.T) {
	for i, row := range []struct {
		want bool
		a, b api.Event
	}{
		{true, at(0, 0, 1, 2, 3), at(0, 1, 4, 5, 6)},
		{true, at(0, 0, 1, 2, 3), at(0, 1, 400, 500, 600)},
		{true, at(0, 0, 1, 1, 1), at(0, 1, 2, 2, 2)},
		{true, at(0, 0, 1, 2, 3), at(0, 1, 4, 5, 0)}, // a last one without an End
		{true, at(0, 0, 1, 2, 3), at(0, 1, 4, 0, 0)}, // a last one without a Point
		{true, at(0, 0, 1, 2, most-1), at(0, 1, most, most, most)},
		{false, at(0, 0, 1, 2, 4), at(0, 1, 4, 5, 6)}, // its End is that one's Begin
		{false, at(0, 0, 1, 2, 4), at(0, 1, 4, 0, 0)},
		{false, at(0, 0, 1, 1, 1), at(0, 1, 1, 2, 2)},
		{false, at(0, 0, 1, 2, most), at(0, 1, most, most, most)},
		{false, at(0, 0, 1, 2, 5), at(0, 1, 4, 6, 7)}, // above it
		{false, at(0, 0, 1, 2, 9), at(0, 1, 3, 4, 5)},
		{false, at(0, 0, 1, 2, most), at(0, 1, 3, 4, 5)},
		{false, at(0, 0, 1, 2, 0), at(0, 1, 4, 5, 6)}, // it has none
		{false, at(0, 0, 1, 0, 0), at(0, 1, 4, 5, 6)},
		{false, at(0, 0, 1, 2, 0), at(0, 1, 4, 0, 0)},
		{false, at(0, 0, 1, 0, 0), at(0, 1, most, 0, 0)},
		{false, at(0, 0, 10, 11, 12), at(0, 1, 1, 2, 3)}, // that one is ahead of it
		{false, at(0, 0, 10, 11, 0), at(0, 1, 1, 2, 3)},
		{false, at(0, 0, 10, 11, 12), at(0, 1, 9, 0, 0)},
	} {
		if aheadBy(row.a, row.b) != row.want {
			t.Fatalf("row %d: by the words it is %t", i, !row.want)
		}
		fine(t, row.want, row.a, row.b)
		fine(t, row.want, slices.Insert(others(), 2, row.a, row.b)...)
		fine(t, row.want, append(append([]api.Event{row.a}, others()...), row.b)...)
		// It isn't of two clients.
		b := row.b
		b.Client, b.N = 1, 0
		fine(t, true, row.a, b)
		// Nor does it matter which of several it is.
		b = row.b
		b.N = 3
		l := []api.Event{at(0, 0, 100, 100, 100), at(0, 1, 101, 101, 101), at(0, 2, 0, 0, 0), at(0, 3, 0, 0, 0)}
		l[2], l[3] = later(row.a, 2), later(b, 3)
		fine(t, row.want, l...)
		if last := l[3].End; last > 0 && last < most {
			fine(t, row.want, append(l, at(0, 4, last+1, 0, 0))...)
		}
	}
}

// later is an event by 200 ticks later, if there are so many.
func later(e api.Event, n int) api.Event {
	e.N = n
	for _, tick := range []*int{&e.Begin, &e.Point, &e.End} {
		if *tick > 0 && *tick < most-200 {
			*tick += 200
		}
	}
	return e
}

// P19.1: between clients events stand in any order of their ticks.
func TestNoOrderBetweenClients(t *testing.T) {
	a := []api.Event{at(0, 0, 1, 2, 3), at(0, 1, 4, 5, 6), at(0, 2, 7, 8, 0)}
	b := []api.Event{at(most, 0, 100, 101, 102), at(most, 1, 103, 104, 105), at(most, 2, 106, 0, 0)}
	c := []api.Event{at(7, 0, 3, 50, 60), at(7, 1, 61, 61, 61), at(7, 2, 900, 950, 960)}
	every := 0
	for row := range 1 << 18 { // of 9 choices of three clients
		from := [][]api.Event{a, b, c}
		var l []api.Event
		for i := range 9 {
			n := row >> (2 * i) & 3
			if n == 3 || len(from[n]) == 0 {
				break
			}
			l = append(l, from[n][0])
			from[n] = from[n][1:]
		}
		if len(l) < 9 {
			continue
		}
		every++
		if !Fine(l) {
			t.Fatalf("Fine(%v) = false", numbers(l))
		}
		// Two of one client, the one in the other's place.
		for _, client := range []int{0, 7, most} {
			i := slices.IndexFunc(l, func(e api.Event) bool { return e.Client == client && e.N == row%2 })
			k := slices.IndexFunc(l, func(e api.Event) bool { return e.Client == client && e.N == 2 })
			l[i], l[k] = l[k], l[i]
			if Fine(l) {
				t.Fatalf("Fine(%v) = true", numbers(l))
			}
			l[i], l[k] = l[k], l[i]
		}
	}
	if every != 1680 {
		t.Errorf("there were %d orders", every)
	}
}

// P19.1: what else stands in an event plays no part.
func TestWhatPlaysNoPart(t *testing.T) {
	call := api.Call{Op: -5, Key: "\xff", Time: -7, Value: math.MaxInt64, End: math.MinInt64, Group: -1, Shard: most}
	for _, r := range []api.Reply{{}, {Code: api.Bad}, {Code: least}, {Code: most, Panes: make([]api.Pane, 3)}} {
		for _, x := range []api.Call{{}, call, {Op: api.Close}} {
			l := some()
			for i := range l {
				l[i].Call, l[i].Reply = x, r
			}
			fine(t, true, l...)
			ordered(t, l, 1, 0, 3, 4, 6)
			if !Ahead(l[0], l[2]) || Ahead(l[0], l[1]) {
				t.Errorf("of %+v and %+v it is told otherwise", x, r)
			}
			l[3].N = 2
			fine(t, false, l...)
		}
	}
}
