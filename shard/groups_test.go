package shard

import (
	"math"
	"slices"
	"testing"

	"easel/api"
	"easel/group"
)

// P14.1: what went out of all groups, by rising numbers, and in order within each.
func TestMark(t *testing.T) {
	for _, groups := range [][]int{nil, {0}, {3}, {2, 0}, {3, 1, 2}, {3, 2, 1, 0}} {
		for mark, gone := range over() {
			for _, closed := range []bool{false, true} {
				w := filled(t, groups...)
				rising := w.Groups()
				var out, left []api.Pane
				for _, n := range rising {
					out, left = append(out, full(n)[:gone]...), append(left, full(n)[gone:]...)
				}
				does(t, w, marking(), mark, closed, Did{Out: out})
				stands(t, tumbling(10, 0), w, rising, left...)
				does(t, w, marking(), mark, closed, Did{})
				does(t, w, marking(), least, closed, Did{})
				stands(t, tumbling(10, 0), w, rising, left...)
			}
		}
	}
}

// P14.1: of 16 groups: their numbers aren't gone through as texts, and an End that is earlier stands behind a lower group.
func TestMarkByNumbers(t *testing.T) {
	c := tumbling(10, 0)
	c.Groups = 16
	for range 20 { // a map is gone through in another order each time
		w := made(t, c, upTo(16)...)
		var out []api.Pane
		for n := range 16 {
			name := key(16, n, 0)
			at := int64(-10 * n)
			does(t, w, ask(ingest(name, at, 1)), least, false, Did{})
			out = append(out, of(name, at, at+10, 1))
		}
		does(t, w, marking(), 10, false, Did{Out: out})
		counts(t, w, upTo(16), 0)
	}
}

// P14.1: within a group by the order of timers: the End, the Start, the key's bytes.
func TestMarkWithinAGroup(t *testing.T) {
	c := session(10, 0)
	w := made(t, c, 2)
	a, b, d := key(4, 2, 0), key(4, 2, 1), key(4, 2, 2)
	sorted := []string{a, b, d}
	slices.Sort(sorted)
	for _, name := range []string{d, a, b} {
		does(t, w, ask(ingest(name, 30, 1)), least, false, Did{})
	}
	does(t, w, ask(ingest(b, 21, 2)), least, false, Did{})
	does(t, w, ask(ingest(d, 5, 3)), least, false, Did{})
	does(t, w, ask(ingest(a, 8, 4)), least, false, Did{})
	want := panes(of(d, 5, 15, 3), of(a, 8, 18, 4), of(b, 21, 40, 2, 1))
	for _, name := range sorted {
		if name != b {
			want = append(want, of(name, 30, 40, 1))
		}
	}
	does(t, w, marking(), 39, false, Did{Out: want[:2]})
	does(t, w, marking(), 40, false, Did{Out: want[2:]})
	stands(t, c, w, []int{2})
}

// P14.1: what else stands in a Mark plays no part.
func TestMarkOfWhatElse(t *testing.T) {
	for n := -1; n <= 4; n++ {
		w := filled(t, 0, 1, 2, 3)
		m := Msg{Kind: Mark, From: n, Call: ingest(key(4, 1, 0), 5, 9), Group: n, State: state(t, tumbling(10, 0), "a", 3)}
		want := append(append(append(full(0)[:1], full(1)[:1]...), full(2)[:1]...), full(3)[:1]...)
		does(t, w, m, 10, false, Did{Out: want})
		counts(t, w, upTo(4), 8)
	}
}

// gives does a Give, and tells the state.
func gives(t *testing.T, w *Worker, n int, mark int64, closed bool) *group.Group {
	t.Helper()
	m := give(n)
	sent(t, w, m)
	d, is := w.Step(mark, closed)
	if !is || d.State == nil || !same(d, Did{Msg: m, State: d.State}) {
		t.Fatalf("Give of %d: Step(%d, %t) = %+v, %t", n, mark, closed, d, is)
	}
	return d.State
}

// P14.1: the state is told, as it is: it isn't settled; the group is no longer there.
func TestGive(t *testing.T) {
	for n := range 4 {
		for _, mark := range marks() {
			for _, closed := range []bool{false, true} {
				w := filled(t, 0, 1, 2, 3)
				g := gives(t, w, n, mark, closed)
				others := slices.DeleteFunc(upTo(4), func(g int) bool { return g == n })
				stands(t, tumbling(10, 0), w, others, full(others...)...)
				if g.Len() != 3 || g.Due() != 3 || !slices.Equal(g.Panes(key(4, n, 1)), full(n)[1:2]) {
					t.Errorf("the state of group %d has %v", n, g.Keys())
				}
				for _, x := range keyed(key(4, n, 0)) {
					does(t, w, ask(x), mark, closed, Did{Moved: true})
				}
				does(t, w, give(n), mark, closed, Did{})
				// What is given away is no more the worker's.
				g.Take(key(4, n, 0), 50, 1, least)
				if out := g.Settle(least + 1); len(out) > 0 || g.Len() != 4 {
					t.Errorf("the state let go %+v, and has %d panes", out, g.Len())
				}
				stands(t, tumbling(10, 0), w, others, full(others...)...)
				want := Did{}
				for _, o := range others {
					want.Out = append(want.Out, full(o)...)
				}
				does(t, w, marking(), most, closed, want)
				if g.Len() != 4 {
					t.Errorf("a Mark left %d panes of the state", g.Len())
				}
			}
		}
	}
}

// P14.1: none, of a group that it doesn't have, and of ones that there aren't.
func TestGiveOfWhatItDoesNotHave(t *testing.T) {
	for _, n := range []int{1, 3, -1, 4, 5, 16, 256, 1 << 32, math.MinInt, math.MaxInt} {
		for _, closed := range []bool{false, true} {
			w, none := filled(t, 0, 2), made(t, tumbling(10, 0))
			for _, mark := range marks() {
				m := give(n)
				m.From, m.Call, m.State = n, ingest(key(4, 0, 0), 3, 5), state(t, tumbling(10, 0), "a", 3)
				does(t, w, m, mark, closed, Did{})
				does(t, none, m, mark, closed, Did{})
				does(t, w, give(n), mark, closed, Did{})
			}
			stands(t, tumbling(10, 0), w, []int{0, 2}, full(0, 2)...)
			stands(t, tumbling(10, 0), none, nil)
		}
	}
}

// P14.1: also all groups, one behind the other; a state without panes is one.
func TestGiveOfAll(t *testing.T) {
	w := made(t, tumbling(10, 0), 3, 1, 0, 2)
	var states []*group.Group
	for i, n := range []int{2, 0, 3, 1} {
		g := gives(t, w, n, 0, false)
		if g.Len() != 0 || g.Due() != 0 || slices.Contains(states, g) {
			t.Errorf("the state of group %d has %d panes, or is another one's", n, g.Len())
		}
		states = append(states, g)
		if len(w.Groups()) != 3-i {
			t.Errorf("behind %d of 4, Groups() = %v", i+1, w.Groups())
		}
	}
	stands(t, tumbling(10, 0), w, nil)
	does(t, w, marking(), most, false, Did{})
}

// P14.1: it has it now, with its panes, and its timers.
func TestHave(t *testing.T) {
	c := tumbling(10, 0)
	for n := range 4 {
		for _, mark := range marks() {
			for _, closed := range []bool{false, true} {
				from, to := filled(t, 0, 1, 2, 3), filled(t, (n+1)%4)
				g := gives(t, from, n, mark, closed)
				does(t, to, have(n, g), mark, closed, Did{})
				groups := []int{n, (n + 1) % 4}
				slices.Sort(groups)
				stands(t, c, to, groups, full(groups...)...)
				does(t, to, ask(queryKey(key(4, n, 1))), 20, false, Did{Reply: told(api.OK), Out: full(n)[:2]})
				does(t, to, ask(ingest(key(4, n, 1), 20, 6)), 20, false, Did{Reply: told(api.OK)})
				does(t, to, ask(ingest(key(4, n, 1), 19, 6)), 20, false, Did{Reply: told(api.Late)})
				if gives(t, to, n, mark, closed) != g {
					t.Errorf("group %d is given with another state", n)
				}
				stands(t, c, to, []int{(n + 1) % 4}, full((n+1)%4)...)
			}
		}
	}
}

// P14.1: what it has had goes out with a Mark among its others, by rising numbers.
func TestHaveAndMark(t *testing.T) {
	for mark, gone := range over() {
		from, to := filled(t, 1, 3), filled(t, 0, 2)
		for _, n := range []int{3, 1} {
			does(t, to, have(n, gives(t, from, n, mark, true)), mark, true, Did{})
		}
		var out, left []api.Pane
		for n := range 4 {
			out, left = append(out, full(n)[:gone]...), append(left, full(n)[gone:]...)
		}
		does(t, from, marking(), mark, false, Did{})
		does(t, to, marking(), mark, false, Did{Out: out})
		stands(t, tumbling(10, 0), to, upTo(4), left...)
	}
}

// P14.1: without a state nothing is had, and what is there stays.
func TestHaveWithoutAState(t *testing.T) {
	for _, groups := range [][]int{nil, {0, 2}, {0, 1, 2, 3}} {
		w := filled(t, groups...)
		for _, n := range []int{0, 1, 2, 3, 4, -1, 16, math.MinInt, math.MaxInt} {
			for _, mark := range marks() {
				for _, closed := range []bool{false, true} {
					does(t, w, Msg{Kind: Have, From: 2, Group: n, Call: ingest(key(4, 2, 0), 3, 5)}, mark, closed, Did{})
					counts(t, w, groups, 3*len(groups))
				}
			}
		}
		stands(t, tumbling(10, 0), w, groups, full(groups...)...)
	}
}

// P14.1: of a group that it has already, the other state is gone.
func TestHaveOfAGroupThatItHas(t *testing.T) {
	c, a := tumbling(10, 0), key(4, 1, 0)
	w := filled(t, 0, 1)
	first := w.groups[1]
	second := state(t, c, a, 23, 41)
	does(t, w, have(1, second), 0, false, Did{})
	stands(t, c, w, []int{0, 1}, append(full(0), of(a, 20, 30, 1), of(a, 40, 50, 1))...)
	does(t, w, marking(), 30, false, Did{Out: append(full(0), of(a, 20, 30, 1))})
	if first.Len() != 3 || second.Len() != 1 {
		t.Errorf("the states have %d and %d panes", first.Len(), second.Len())
	}
	if g := gives(t, w, 1, 30, false); g != second {
		t.Errorf("group 1 is given with another state, of %v", g.Keys())
	}
	does(t, w, give(1), 30, false, Did{})
	does(t, w, have(1, first), 30, false, Did{})
	stands(t, c, w, []int{0, 1}, full(1)...)
	does(t, w, have(1, first), 30, false, Did{})
	stands(t, c, w, []int{0, 1}, full(1)...)
	does(t, w, have(1, state(t, c, a)), 30, false, Did{})
	stands(t, c, w, []int{0, 1})
}

// P14.1: the words leave no number out: a Have of one that there isn't, with a state, is had as others are.
func TestHaveOfANumberThatThereIsNot(t *testing.T) {
	c := tumbling(10, 0)
	for _, n := range []int{4, 5, 16, 256, 1 << 32, -1, math.MinInt, math.MaxInt} {
		for _, closed := range []bool{false, true} {
			w := filled(t, 0, 3)
			g := state(t, c, "other", 3)
			does(t, w, have(n, g), 0, closed, Did{})
			groups := []int{0, 3, n}
			out := append(full(0)[:1], full(3)[0], of("other", 0, 10, 1))
			if n < 0 {
				groups = []int{n, 0, 3}
				out = panes(of("other", 0, 10, 1), full(0)[0], full(3)[0])
			}
			counts(t, w, groups, 7)
			does(t, w, marking(), 10, closed, Did{Out: out})
			counts(t, w, groups, 4)
			if gives(t, w, n, 10, closed) != g {
				t.Errorf("%d is given with another state", n)
			}
			stands(t, c, w, []int{0, 3}, append(full(0)[1:], full(3)[1:]...)...)
		}
	}
}

// P14.1: the state is the group from then on, and goes by its own config.
func TestHaveOfAStateOfAnotherConfig(t *testing.T) {
	w, a := filled(t, 2), key(4, 1, 0)
	does(t, w, have(1, state(t, session(7, 3), a, 3, 8)), 0, false, Did{})
	does(t, w, ask(ingest(a, 30, 4)), 17, false, Did{Reply: told(api.OK)})
	does(t, w, ask(queryKey(a)), 18, false, Did{Reply: told(api.OK, of(a, 30, 37, 4)), Out: panes(of(a, 3, 15, 1, 1))})
}

// P14.1: nothing is told but the message, and nothing is done, whatever stands in it.
func TestMessagesOfOtherKinds(t *testing.T) {
	kinds := []int{0, 5, 6, -1, -4, math.MinInt, math.MaxInt}
	for k := Ask; k <= Have; k++ {
		kinds = append(kinds, 1<<8+k, 1<<16+k, 1<<32+k, -k)
	}
	for _, groups := range [][]int{nil, {1}, {0, 1, 2, 3}} {
		w := filled(t, groups...)
		for _, kind := range kinds {
			for _, mark := range []int64{least, 10, most} {
				for _, closed := range []bool{false, true} {
					for n := range 4 {
						m := Msg{Kind: kind, From: 1, Call: ingest(key(4, n, 0), 3, 5), Group: n, State: state(t, tumbling(10, 0), "a", 3)}
						does(t, w, m, mark, closed, Did{})
					}
					does(t, w, Msg{Kind: kind}, mark, closed, Did{})
					counts(t, w, groups, 3*len(groups))
				}
			}
		}
		stands(t, tumbling(10, 0), w, groups, full(groups...)...)
	}
}

// P14.1: Len over puts, joins of sessions, what goes out, and groups that are given and had.
func TestLen(t *testing.T) {
	w := made(t, session(10, 0), 0, 1, 2)
	a, b := key(4, 0, 0), key(4, 1, 0)
	put := func(name string, at int64, n int) {
		t.Helper()
		does(t, w, ask(ingest(name, at, 1)), least, false, Did{})
		counts(t, w, []int{0, 1, 2}, n)
	}
	put(a, 0, 1)
	put(a, 0, 1)
	put(a, 20, 2)
	put(a, 40, 3)
	put(b, 20, 4)
	put(a, 11, 4)  // from 11 to 30, with that of 20
	put(a, 9, 3)   // from 0 to 30
	put(a, 30, 4)  // from 30 to 40: they don't meet
	put(a, 29, 3)  // from 0 to 40
	put(b, 100, 4) // b's second one
	put(a, 31, 3)  // from 0 to 50
	does(t, w, ask(ingest(a, most, 1)), least, false, Did{Reply: told(api.BadTime)})
	counts(t, w, []int{0, 1, 2}, 3)
	does(t, w, ask(queryKey(b)), 30, false, Did{Reply: told(api.OK, of(b, 100, 110, 1)), Out: panes(of(b, 20, 30, 1))})
	counts(t, w, []int{0, 1, 2}, 2)
	g := gives(t, w, 0, 30, false)
	counts(t, w, []int{1, 2}, 1)
	g.Take(a, 200, 1, 30)
	does(t, w, have(0, g), 30, false, Did{})
	counts(t, w, []int{0, 1, 2}, 3)
	does(t, w, have(1, state(t, session(10, 0), b)), 30, false, Did{})
	counts(t, w, []int{0, 1, 2}, 2)
	does(t, w, marking(), 50, true, Did{Out: panes(of(a, 0, 50, 1, 1, 1, 1, 1, 1, 1, 1, 1))})
	counts(t, w, []int{0, 1, 2}, 1)
	does(t, w, marking(), most, true, Did{Out: panes(of(a, 200, 210, 1))})
	counts(t, w, []int{0, 1, 2}, 0)
}

// R2: what went out is new memory; so are the numbers.
func TestMarkTellsNewMemory(t *testing.T) {
	w := filled(t, 0, 1)
	sent(t, w, marking())
	d, _ := w.Step(10, false)
	for range 3 {
		does(t, w, ask(ingest(key(4, 0, 1), 11, 2)), 10, false, Did{})
	}
	does(t, w, marking(), 20, false, Did{Out: panes(of(key(4, 0, 1), 10, 20, -2, 2, 2, 2), full(1)[1])})
	if !slices.Equal(d.Out, panes(full(0)[0], full(1)[0])) {
		t.Errorf("what went out became %+v", d.Out)
	}
	spoil(d.Out)
	stands(t, tumbling(10, 0), w, []int{0, 1}, full(0)[2], full(1)[2])
	list := w.Groups()
	does(t, w, have(2, state(t, tumbling(10, 0), "a")), 10, false, Did{})
	if !slices.Equal(list, []int{0, 1}) {
		t.Errorf("Groups() became %v", list)
	}
}
