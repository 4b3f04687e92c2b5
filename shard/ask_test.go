package shard

import (
	"math"
	"slices"
	"testing"

	"easel/api"
	"easel/fnv"
)

// P14.1: an Ask of each keyed Op comes to what a group that isn't asked at a later watermark tells.
func TestAsk(t *testing.T) {
	for n := range 4 {
		a, b := key(4, n, 0), key(4, n, 1)
		w := filled(t, 0, 1, 2, 3)
		list := full(0, 1, 2, 3)
		ok := func(x api.Call, code int, list ...api.Pane) {
			t.Helper()
			does(t, w, ask(x), 0, false, Did{Reply: told(code, list...)})
		}
		ok(queryKey(a), api.OK, of(a, 0, 10, int64(n)), of(a, 20, 30, 7))
		ok(queryKey(b), api.OK, of(b, 10, 20, -2))
		ok(queryKey(key(4, n, 2)), api.OK)
		ok(queryPane(a, 20, 30), api.OK, of(a, 20, 30, 7))
		ok(queryPane(a, 20, 31), api.OK)
		ok(queryPane(a, 10, 20), api.OK)
		ok(queryPane(b, 10, 20), api.OK, of(b, 10, 20, -2))
		ok(ingest(a, most, 1), api.BadTime)
		ok(tryIngest(a, least, 1), api.BadTime)
		ok(ingest(a, -1, 1), api.Late)
		ok(tryIngest(a, -10, 1), api.Late)
		stands(t, tumbling(10, 0), w, upTo(4), list...)
		ok(ingest(b, 19, 9), api.OK)
		ok(tryIngest(b, 30, 3), api.OK)
		list = slices.DeleteFunc(list, func(p api.Pane) bool { return p.Key == b })
		list = append(list, of(b, 10, 20, -2, 9), of(b, 30, 40, 3))
		stands(t, tumbling(10, 0), w, upTo(4), list...)
	}
}

// P14.1: the call's group is its key's, by the config's number of groups; what else stands in the call, or the message,
// plays no part.
func TestWhichGroupIsAsked(t *testing.T) {
	for _, groups := range []int{1, 2, 3, 4, 7, 16} {
		c := tumbling(10, 0)
		c.Groups = groups
		for n := range groups {
			without := slices.DeleteFunc(upTo(groups), func(g int) bool { return g == n })
			some, others := made(t, c, n), made(t, c, without...)
			for i := range 40 {
				name := key(groups, i%groups, i/groups)
				for _, x := range keyed(name) {
					x.Group, x.Shard = n, n
					want := fnv.Group(name, groups) == n
					m := ask(x)
					m.Group, m.From, m.State = n, n, state(t, c, name, 3)
					for _, w := range []*Worker{some, others} {
						sent(t, w, m)
						got, is := w.Step(least, false)
						if !is || got.Msg != m || got.Moved == want || got.State != nil {
							t.Errorf("of %d groups, an Ask of %q, of group %d, told %+v", groups, name, i%groups, got)
						}
						want = !want
					}
				}
			}
			counts(t, some, []int{n}, some.Len())
			counts(t, others, without, others.Len())
		}
	}
}

// P14.1: Moved, closed or not, at each watermark: nothing beside it, and nothing is done.
func TestAskOfAGroupThatItDoesNotHave(t *testing.T) {
	for n := range 4 {
		groups := slices.DeleteFunc(upTo(4), func(g int) bool { return g == n })
		some, none := filled(t, groups...), made(t, tumbling(10, 0))
		for _, mark := range marks() {
			for _, closed := range []bool{false, true} {
				for _, name := range []string{key(4, n, 0), key(4, n, 1)} {
					for _, x := range append(keyed(name), ingest(name, most, 1), ingest(name, least, 1)) {
						does(t, some, ask(x), mark, closed, Did{Moved: true})
						does(t, none, ask(x), mark, closed, Did{Moved: true})
					}
				}
			}
		}
		stands(t, tumbling(10, 0), some, groups, full(groups...)...)
		stands(t, tumbling(10, 0), none, nil)
	}
}

// P14.1: Closed, at each watermark: nothing goes out, and nothing is put.
func TestAskClosed(t *testing.T) {
	w := filled(t, 0, 1, 2, 3)
	for _, mark := range marks() {
		for _, name := range names(4) {
			for _, x := range append(keyed(name), ingest(name, most, 1), tryIngest(name, -1, 1), queryPane(name, 20, 30)) {
				does(t, w, ask(x), mark, true, Did{Reply: told(api.Closed)})
			}
		}
	}
	stands(t, tumbling(10, 0), w, upTo(4), full(0, 1, 2, 3)...)
	// Whether it is closed is told in each step anew.
	does(t, w, ask(queryKey(key(4, 1, 1))), 20, false, Did{Reply: told(api.OK), Out: full(1)[:2]})
}

// P14.1: at each watermark what is over of the group goes out ahead of the call, and nothing of others.
func TestAskSettlesTheGroup(t *testing.T) {
	c := tumbling(10, 0)
	for mark, gone := range over() {
		for n := range 4 {
			a := key(4, n, 0)
			others := slices.DeleteFunc(upTo(4), func(g int) bool { return g == n })
			left := append(full(others...), full(n)[gone:]...)
			ofA := ofKey(full(n)[gone:], a)
			for _, row := range []struct {
				x    api.Call
				want api.Reply
			}{
				{queryKey(a), told(api.OK, ofA...)},
				{queryPane(a, 20, 30), told(api.OK, ofWindow(ofA, 20, 30)...)},
				{queryPane(a, 0, 10), told(api.OK, ofWindow(ofA, 0, 10)...)},
				{queryKey(key(4, n, 2)), told(api.OK)},
				{ingest(a, most, 1), told(api.BadTime)},
				{tryIngest(a, least, 1), told(api.BadTime)},
			} {
				w := filled(t, 0, 1, 2, 3)
				does(t, w, ask(row.x), mark, false, Did{Reply: row.want, Out: full(n)[:gone]})
				stands(t, c, w, upTo(4), left...)
				does(t, w, ask(row.x), mark, false, Did{Reply: row.want})
				stands(t, c, w, upTo(4), left...)
			}
		}
	}
}

// ofWindow are those panes of a list that are of that window.
func ofWindow(list []api.Pane, start, end int64) []api.Pane {
	return slices.DeleteFunc(slices.Clone(list), func(p api.Pane) bool { return p.Span != api.Span{Start: start, End: end} })
}

// P14.1: likewise of records, that are OK or late.
func TestAskPutsBehindSettling(t *testing.T) {
	for _, put := range puts() {
		for mark, gone := range over() {
			w := filled(t, 0, 1, 2, 3)
			b := key(4, 2, 1)
			want, left := Did{Out: full(2)[:gone]}, append(full(0, 1, 3), full(2)[gone:]...)
			switch {
			case mark >= 20:
				want.Reply.Code = api.Late
			default:
				i := slices.Index(left, of(b, 10, 20, -2))
				left[i] = of(b, 10, 20, -2, math.MaxInt64)
			}
			does(t, w, ask(put(b, 12, math.MaxInt64)), mark, false, want)
			stands(t, tumbling(10, 0), w, upTo(4), left...)
		}
	}
}

// P14.1: the watermark of a step is taken as it is, though the group was settled at a later one.
func TestAskAtALowerWatermark(t *testing.T) {
	for _, put := range puts() {
		c := tumbling(10, 0)
		w := filled(t, 0, 1)
		a := key(4, 1, 0)
		does(t, w, ask(queryKey(a)), 20, false, Did{Reply: told(api.OK, of(a, 20, 30, 7)), Out: full(1)[:2]})
		does(t, w, ask(put(a, 4, 9)), 10, false, Did{Reply: told(api.Late)})
		does(t, w, ask(put(a, 4, 9)), 9, false, Did{Reply: told(api.OK)})
		stands(t, c, w, []int{0, 1}, append(full(0), of(a, 0, 10, 9), of(a, 20, 30, 7))...)
		does(t, w, ask(put(a, 4, 1)), least, false, Did{Reply: told(api.OK)})
		does(t, w, ask(queryPane(a, 0, 10)), 10, false, Did{Reply: told(api.OK), Out: panes(of(a, 0, 10, 9, 1))})
		stands(t, c, w, []int{0, 1}, append(full(0), of(a, 20, 30, 7))...)
		does(t, w, marking(), 10, false, Did{Out: full(0)[:1]})
	}
}

// P14.1: both ends of what a watermark may be, with windows at both ends.
func TestAskAtTheEnds(t *testing.T) {
	c := tumbling(1, 0)
	w, a := made(t, c, 2), key(4, 2, 0)
	first, last := of(a, least, least+1, 1), of(a, most-1, most, 2)
	does(t, w, ask(ingest(a, least, 1)), least, false, Did{Reply: told(api.OK)})
	does(t, w, ask(tryIngest(a, most-1, 2)), least, false, Did{Reply: told(api.OK)})
	does(t, w, ask(queryKey(a)), least, false, Did{Reply: told(api.OK, first, last)})
	does(t, w, ask(queryKey(a)), least+1, false, Did{Reply: told(api.OK, last), Out: panes(first)})
	does(t, w, ask(queryPane(a, most-1, most)), most-1, false, Did{Reply: told(api.OK, last)})
	does(t, w, ask(ingest(a, most-1, 2)), most, false, Did{Reply: told(api.Late), Out: panes(last)})
	stands(t, c, w, []int{2})
}

// P14.1: of each kind of windows, by its lateness.
func TestAskOfEachKind(t *testing.T) {
	a := key(4, 1, 0)
	there := map[int][]api.Pane{
		api.Tumbling: panes(of(a, 0, 10, 3, 4)),
		api.Sliding:  panes(of(a, -5, 5, 3), of(a, 0, 10, 3, 4), of(a, 5, 15, 4)),
		api.Session:  panes(of(a, 0, 17, 3, 4)),
	}
	for _, c := range kinds() {
		for _, mark := range []int64{least, 9, 10, 14, 15, 19, 20, 21, 22, most} {
			w := made(t, c, 1, 3)
			does(t, w, ask(ingest(a, 0, 3)), least, false, Did{})
			does(t, w, ask(tryIngest(a, 7, 4)), least, false, Did{})
			out := slices.DeleteFunc(slices.Clone(there[c.Kind]), func(p api.Pane) bool { return p.Span.End+5 > mark })
			left := there[c.Kind][len(out):]
			stands(t, c, w, []int{1, 3}, there[c.Kind]...)
			does(t, w, ask(queryKey(a)), mark, false, Did{Reply: told(api.OK, left...), Out: out})
			stands(t, c, w, []int{1, 3}, left...)
		}
	}
}

// wrongCalls are keyed, and may not be: each for one thing that its Op asks for.
func wrongCalls() []api.Call {
	var list []api.Call
	for _, op := range []int{api.Ingest, api.TryIngest, api.QueryPane, api.QueryKey} {
		for _, name := range wrongNames() {
			list = append(list, api.Call{Op: op, Key: name, Time: 3, Value: 5, End: 8})
		}
	}
	for _, s := range [][2]int64{{0, 0}, {10, 10}, {10, 0}, {10, 9}, {0, -1}, {most, least}, {least, least}, {most, most}} {
		list = append(list, queryPane(key(4, 0, 0), s[0], s[1]), queryPane(key(4, 2, 1), s[0], s[1]))
	}
	return list
}

// otherCalls aren't keyed; those of Ops 3, 6 and 7 may be.
func otherCalls() []api.Call {
	list := []api.Call{{}, {Op: api.Advance}, {Op: api.Rebalance}, {Op: api.Close}}
	ops := []int{3, 6, 7, 0, 8, 9, -1, -2, math.MinInt, math.MinInt + 1, math.MaxInt - 1, math.MaxInt}
	for op := 1; op <= 7; op++ {
		ops = append(ops, 1<<8+op, 1<<16+op, 1<<32+op, -op)
	}
	for _, op := range ops {
		for _, name := range []string{key(4, 0, 0), key(4, 3, 1), ""} {
			list = append(list, api.Call{Op: op, Key: name, Time: 30, Value: 5, End: 40, Group: 1, Shard: 1})
		}
	}
	return append(list, api.Call{Op: api.Rebalance, Group: -1, Shard: 99}, api.Call{Op: api.Rebalance, Group: 4})
}

// P14.1: nothing is told but the message, and nothing is done, whether it has groups or not, closed or not.
func TestAskOfOtherCalls(t *testing.T) {
	for _, groups := range [][]int{nil, {0}, {3}, {0, 1, 2, 3}} {
		w := filled(t, groups...)
		for _, x := range append(wrongCalls(), otherCalls()...) {
			for _, mark := range []int64{least, 0, 10, 30, most} {
				for _, closed := range []bool{false, true} {
					does(t, w, ask(x), mark, closed, Did{})
					counts(t, w, groups, 3*len(groups))
				}
			}
		}
		stands(t, tumbling(10, 0), w, groups, full(groups...)...)
	}
}

// P14.1: an Ask whose call isn't one that may be is no other message, whatever else stands in it.
func TestAskOfOtherCallsIsNoOtherMessage(t *testing.T) {
	w := filled(t, 0, 1, 2, 3)
	for _, x := range append(wrongCalls(), otherCalls()...) {
		for n := range 4 {
			does(t, w, Msg{Kind: Ask, From: 1, Call: x, Group: n, State: state(t, tumbling(10, 0), "a", 3)}, 10, false, Did{})
		}
	}
	stands(t, tumbling(10, 0), w, upTo(4), full(0, 1, 2, 3)...)
}

// P14.1: keys that may be, of the least and of the greatest length, and of bytes that are no text.
func TestAskOfKeysThatMayBe(t *testing.T) {
	w := made(t, tumbling(10, 0), 0, 1, 2, 3)
	for _, name := range []string{"a", "\x00", "\x80", "\xff", "é", "user-17", "12345678901234567890"} {
		does(t, w, ask(ingest(name, 3, 5)), 0, false, Did{Reply: told(api.OK)})
		does(t, w, ask(queryPane(name, 0, 10)), 0, false, Did{Reply: told(api.OK, of(name, 0, 10, 5))})
	}
	counts(t, w, upTo(4), 7)
}

// P14.1: the config that says which calls may be is the worker's own.
func TestAskByItsConfig(t *testing.T) {
	for groups := 1; groups <= 16; groups++ {
		c := sliding(10, 3, 0)
		c.Groups, c.Shards = groups, 1
		w := made(t, c, upTo(groups)...)
		for i := range 32 {
			name := key(groups, i%groups, i/groups)
			does(t, w, ask(queryKey(name)), 0, false, Did{Reply: told(api.OK)})
		}
	}
}

// R2: what is told is new memory, none of it shared.
func TestAskTellsNewMemory(t *testing.T) {
	a := key(4, 1, 0)
	for _, x := range []api.Call{queryKey(a), queryPane(a, 20, 30)} {
		w := filled(t, 1)
		step := func() Did {
			sent(t, w, ask(x))
			d, _ := w.Step(20, false)
			return d
		}
		d := step()
		spoil(d.Reply.Panes)
		if !slices.Equal(d.Out, full(1)[:2]) {
			t.Errorf("%+v: with the reply written over, what went out is %+v", x, d.Out)
		}
		w = filled(t, 1)
		d = step()
		spoil(d.Out)
		if !slices.Equal(d.Reply.Panes, full(1)[2:]) {
			t.Errorf("%+v: with what went out written over, the reply is %+v", x, d.Reply)
		}
		d = step()
		does(t, w, ask(ingest(a, 26, 3)), 20, false, Did{})
		if !slices.Equal(d.Reply.Panes, full(1)[2:]) {
			t.Errorf("%+v: what was told became %+v", x, d.Reply.Panes)
		}
		does(t, w, ask(x), 20, false, Did{Reply: told(api.OK, of(a, 20, 30, 7, 3))})
	}
}
