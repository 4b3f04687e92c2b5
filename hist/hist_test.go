package hist

import (
	"reflect"
	"slices"
	"testing"

	"easel/api"
)

// P19.1: one is ahead of another one, if its End is above 0, and less than that one's Begin.
func TestAhead(t *testing.T) {
	for _, row := range []struct {
		end, begin int
		want       bool
	}{
		{3, 4, true}, {1, 2, true}, {1, 100, true}, {1, most, true}, {most - 1, most, true}, {1 << 32, 1<<32 + 1, true}, {5, 1 << 32, true},
		{0, 1, false}, {0, 0, false}, {0, 4, false}, {0, most, false}, {0, -1, false}, {0, least, false}, // an End of 0
		{-1, 1, false}, {-1, 0, false}, {-1, most, false}, {-1, -1, false}, {-3, -2, false}, {least, most, false}, {least, least + 1, false}, {least, least, false}, {least, 0, false}, // below 0
		{5, 4, false}, {2, 1, false}, {9, 1, false}, {most, 1, false}, {most, most - 1, false}, {1, 0, false}, {1, -1, false}, {3, least, false}, {most, least, false}, {1 << 32, 1, false}, // below the other's Begin
		{4, 4, false}, {1, 1, false}, {most, most, false}, {1 << 32, 1 << 32, false}, // equal to it
	} {
		for _, n := range []int{least, -1, 0, 1, 5, most} {
			// What else stands in the two plays no part.
			a, b := at(n, n, n, n, row.end), at(n, n, row.begin, n, n)
			if got := Ahead(a, b); got != row.want || aheadBy(a, b) != row.want {
				t.Errorf("Ahead(%+v, %+v) = %t; want %t", a, b, got, row.want)
			}
			a, b = at(1, -n, n, 0, row.end), at(0, n, row.begin, 0, n)
			a.Call, b.Reply = api.Call{Op: n, Key: "a"}, api.Reply{Code: n, Panes: make([]api.Pane, 2)}
			if got := Ahead(a, b); got != row.want || aheadBy(a, b) != row.want {
				t.Errorf("Ahead(%+v, %+v) = %t; want %t", a, b, got, row.want)
			}
		}
	}
}

// P19.1: of the same event twice; it is ahead of itself only where it may not be.
func TestAheadOfItself(t *testing.T) {
	for _, row := range []struct {
		begin, end int
		want       bool
	}{
		{1, 0, false}, {1, 1, false}, {1, 2, false}, {1, most, false}, {most, most, false}, {most, 0, false}, {4, -1, false}, {least, least, false}, {0, 0, false},
		{2, 1, true}, {9, 3, true}, {most, most - 1, true}, {most, 1, true},
	} {
		e := at(0, 0, row.begin, row.begin, row.end)
		if got := Ahead(e, e); got != row.want {
			t.Errorf("Ahead of %+v and itself = %t; want %t", e, got, row.want)
		}
	}
}

// P19.1: the chapter's example.
func TestExample(t *testing.T) {
	a, b := at(0, 0, 1, 2, 3), at(0, 1, 4, 0, 0)
	if !Ahead(a, b) || Ahead(b, a) {
		t.Errorf("Ahead = %t, and turned round %t", Ahead(a, b), Ahead(b, a))
	}
	fine(t, true, a, b)
	ordered(t, []api.Event{a, b}, 0)
}

// points are events of these Points, of each as fine as may be.
func points(list ...int) []api.Event {
	var l []api.Event
	for i, p := range list {
		l = append(l, at(i, 0, 1, p, p))
	}
	return l
}

// P19.1: the places of those that have a Point, by rising Points.
func TestOrder(t *testing.T) {
	for _, row := range []struct{ l, want []int }{
		{nil, nil},
		{[]int{0}, nil},
		{[]int{0, 0, 0}, nil}, // none with a Point
		{[]int{1}, []int{0}},
		{[]int{most}, []int{0}},
		{[]int{0, 1}, []int{1}},
		{[]int{1, 0}, []int{0}},
		{[]int{3, 5, 9}, []int{0, 1, 2}}, // all
		{[]int{9, 5, 3}, []int{2, 1, 0}},
		{[]int{5, 9, 3}, []int{2, 0, 1}},
		{[]int{9, 3, 5}, []int{1, 2, 0}},
		{[]int{9, 0, 5, 0, 3, 0}, []int{4, 2, 0}},
		{[]int{0, 9, 0, 0, 5, 3}, []int{5, 4, 1}},
		{[]int{10, 9, 100, 1, 11}, []int{3, 1, 0, 4, 2}}, // as numbers, not as texts
		{[]int{1<<32 + 1, 2, 1 << 32, 1, 1 << 62}, []int{3, 1, 2, 0, 4}},
		{[]int{most, 1, most - 1, 2}, []int{1, 3, 2, 0}},
		{[]int{4, 4}, []int{0, 1}}, // alike ones as they stand
		{[]int{4, 0, 4, 0, 4}, []int{0, 2, 4}},
		{[]int{4, 3, 4, 3, 4, 3}, []int{1, 3, 5, 0, 2, 4}},
		{[]int{4, 5, 4, 3, 5, 3, 0, 4}, []int{3, 5, 0, 2, 7, 1, 4}},
		{[]int{most, most, 1, most}, []int{2, 0, 1, 3}},
		{[]int{-1}, []int{0}}, // below 0
		{[]int{0, -1, 0}, []int{1}},
		{[]int{1, -1}, []int{1, 0}},
		{[]int{-1, -2, -3, 0, 3, 2, 1}, []int{2, 1, 0, 6, 5, 4}},
		{[]int{-1, 1, -1, 1, -1}, []int{0, 2, 4, 1, 3}},
		{[]int{most, least, 0, -1, 1}, []int{1, 3, 4, 0}},
		{[]int{most, least + 1, most - 1, least, least, most}, []int{3, 4, 1, 2, 0, 5}}, // their difference doesn't fit
		{[]int{1, least, most, -2}, []int{1, 3, 0, 2}},
	} {
		l := points(row.l...)
		if by := orderBy(l); !slices.Equal(by, row.want) {
			t.Fatalf("of %v the order is by the words %v; want %v", row.l, by, row.want)
		}
		ordered(t, l, row.want...)
		// What else stands in the events plays no part: neither whose they are, nor when they began, or were done.
		for i := range l {
			l[i] = api.Event{Client: -i, N: 9 - i, Call: api.Call{Op: i}, Reply: api.Reply{Code: -i}, Begin: 100 - i, Point: row.l[i], End: 50 - i}
		}
		ordered(t, l, row.want...)
		for i := range l {
			l[i] = at(0, 0, least, row.l[i], 0)
		}
		ordered(t, l, row.want...)
	}
	ordered(t, some(), 1, 0, 3, 4, 6)
	ordered(t, []api.Event{})
}

// P19.1: alike ones as they stand, of many, too.
func TestOrderOfManyAlike(t *testing.T) {
	for _, kinds := range []int{1, 2, 3, 7, 100} {
		var list []int
		for i := range 3000 {
			list = append(list, i*31%kinds-1)
		}
		l := points(list...)
		ordered(t, l, orderBy(l)...)
	}
}

// copied is a list of its own, down to the panes.
func copied(l []api.Event) []api.Event {
	list := slices.Clone(l)
	for i := range list {
		list[i].Reply.Panes = slices.Clone(list[i].Reply.Panes)
	}
	return list
}

// lists are fine ones, and others; with panes, and room behind the events, and behind the panes.
func lists() [][]api.Event {
	turned := some()
	turned[1].Point, turned[4].End, turned[6].N = -3, -1, 5
	var all [][]api.Event
	for _, l := range [][]api.Event{some(), turned, points(9, 8, 7, 0, 7, 8, 9), points(3), points(0), points(5, 5, 5, 1), one(4, 0, 1, 2), others()} {
		roomy := make([]api.Event, 0, len(l)+3)
		for i, e := range l {
			e.Call = api.Call{Op: api.QueryKey, Key: "a"}
			e.Reply.Panes = make([]api.Pane, i%3, 4)
			for k := range e.Reply.Panes {
				e.Reply.Panes[k].Key = "a"
				e.Reply.Panes[k].Agg.Count = i
			}
			roomy = append(roomy, e)
		}
		all = append(all, roomy)
	}
	return all
}

// P19.2: a change of what was told is neither seen in the events nor in what is told anew, nor in what was told ahead of it.
func TestToldIsNew(t *testing.T) {
	for _, l := range lists() {
		still, want := copied(l), orderBy(l)
		first, second := Order(l), Order(l)
		for i := range first {
			first[i] = -9
		}
		_ = append(first, -9)
		for i := range first[:cap(first)] {
			first[:cap(first)][i] = -7
		}
		if !reflect.DeepEqual(l, still) {
			t.Errorf("behind a change of what was told the events are %v; want %v", l, still)
		}
		if !slices.Equal(second, want) {
			t.Errorf("what was told ahead of it is %v; want %v", second, want)
		}
		ordered(t, l, want...)
		if Fine(l) != fineBy(still) {
			t.Errorf("Fine(%v) = %t", numbers(l), !fineBy(still))
		}
	}
}

// R2: what is handed in isn't changed: neither the events, nor their panes, nor the room behind either.
func TestNothingIsChanged(t *testing.T) {
	for _, l := range lists() {
		for n := range len(l) + 1 {
			still := copied(l)
			room := slices.Clone(l[:cap(l)])
			Fine(l[:n])
			Order(l[:n])
			for i := range l[:n] {
				Ahead(l[i], l[0])
				Ahead(l[0], l[i])
			}
			if !reflect.DeepEqual(l, still) || !reflect.DeepEqual(l[:cap(l)], room) {
				t.Fatalf("behind calls the events are %v; want %v", l, still)
			}
			for i := range l {
				panes := l[i].Reply.Panes
				for _, p := range panes[len(panes):cap(panes)] {
					if p != (api.Pane{}) {
						t.Fatalf("behind the panes of the %d-th event there is %v", i, p)
					}
				}
			}
		}
	}
}

// R2: what is handed in isn't kept: a change of it is not seen in what was told, and is in what is told behind it.
func TestNothingIsKept(t *testing.T) {
	for _, l := range lists() {
		want, wasFine := orderBy(l), fineBy(l)
		told := Order(l)
		if Fine(l) != wasFine {
			t.Fatalf("Fine(%v) = %t", numbers(l), !wasFine)
		}
		still := copied(l)
		for i := range l {
			for k := range l[i].Reply.Panes {
				l[i].Reply.Panes[k].Key = "spoilt"
			}
			l[i] = at(-1, -1, -1, 100-i, -1)
		}
		if !slices.Equal(told, want) {
			t.Errorf("behind a change of the events what was told is %v; want %v", told, want)
		}
		fine(t, false, l...)
		ordered(t, l, orderBy(l)...)
		copy(l, still)
		fine(t, wasFine, l...)
		ordered(t, l, want...)
		fine(t, true)
		ordered(t, nil)
	}
}

// P1: each call ends, and none panics, at all numbers.
func TestNoPanic(t *testing.T) {
	edges := []int{least, -1, 0, 1, most}
	var l []api.Event
	for row := range 5 * 5 * 5 * 5 * 5 {
		l = append(l, at(edges[row%5], edges[row/5%5], edges[row/25%5], edges[row/125%5], edges[row/625]))
	}
	for i, e := range l {
		byWords(t, l[i:i+1])
		byWords(t, []api.Event{e, l[(i*7+3)%len(l)]})
		Ahead(e, l[len(l)-1-i])
	}
	fine(t, false, l...)
	ordered(t, l, orderBy(l)...)
	for _, l := range [][]api.Event{nil, {}, make([]api.Event, 1), make([]api.Event, 1000)} {
		byWords(t, l[:min(len(l), 50)])
		if Fine(l) != (len(l) == 0) || len(Order(l)) != 0 {
			t.Errorf("of %d zero events Fine = %t, Order = %v", len(l), Fine(l), Order(l))
		}
	}
}

// P1: nor does it take long where there are many events.
func TestMany(t *testing.T) {
	var l []api.Event
	for i := range 200000 {
		l = append(l, at(i%1000, i/1000, 10*i+1, 10*i+5, 10*i+9))
	}
	if !Fine(l) {
		t.Error("it isn't fine")
	}
	slices.Reverse(l)
	if Fine(l) {
		t.Error("turned round it is fine")
	}
	for i, place := range Order(l) {
		if place != len(l)-1-i {
			t.Fatalf("the %d-th of the order is %d", i, place)
		}
	}
}
