package oper

import (
	"math"
	"slices"
	"testing"

	"easel/api"
	"easel/call"
	"easel/shard"
)

// atOnce is an event that begins, has its point, and is done in one tick.
func atOnce(client, n int, x api.Call, code, tick int) api.Event {
	return api.Event{Client: client, N: n, Call: x, Reply: api.Reply{Code: code}, Begin: tick, Point: tick, End: tick}
}

// P18.1: a keyed call has its point, and its reply, in the tick of the worker that does it; ahead of that the reply is a zero
// one, and it is done in a tick of its client.
func TestKeyedEvents(t *testing.T) {
	p := one("a", 0, 10, 5)
	for _, e := range []struct {
		x    api.Call
		want api.Reply
	}{
		{put("a", 12, 1), api.Reply{}},
		{try("a", 12, 1), api.Reply{}},
		{put("a", 3, 1), api.Reply{}},
		{put("a", -1, 1), api.Reply{Code: api.Late}},
		{try("a", -10, 1), api.Reply{Code: api.Late}},
		{put("a", math.MaxInt64, 1), api.Reply{Code: api.BadTime}},
		{try("a", math.MinInt64, 1), api.Reply{Code: api.BadTime}},
		{window("a", 0, 10), api.Reply{Panes: []api.Pane{p}}},
		{window("a", 10, 20), api.Reply{}},
		{query("a"), api.Reply{Panes: []api.Pane{p}}},
		{query("b"), api.Reply{}},
	} {
		m := made(t, tumbling(1, 1, 1), []api.Call{put("a", 3, 5), e.x}, []api.Call{advance(0)})
		does(t, m, 1, 0, 1, 2, 2, 0, 2) // to 7
		first := api.Event{Call: put("a", 3, 5), Begin: 1, Point: 2, End: 3}
		rise := api.Event{Client: 1, Call: advance(0), Begin: 4, Point: 4, End: 7}
		events(t, m, first, rise)
		want := api.Event{N: 1, Call: e.x, Begin: 8}
		does(t, m, 1) // 8
		events(t, m, first, rise, want)
		idles(t, m, 1, 2) // 10
		events(t, m, first, rise, want)
		does(t, m, 0) // 11
		want.Point, want.Reply = 11, e.want
		events(t, m, first, rise, want)
		idles(t, m, 0, 2) // 13
		events(t, m, first, rise, want)
		if len(m.Replies(0)) != 1 {
			t.Errorf("%+v: it is done ahead of its end", e.x)
		}
		does(t, m, 1) // 14
		want.End = 14
		events(t, m, first, rise, want)
		if r := m.Replies(0); len(r) != 2 || !call.Same(r[1], e.want) {
			t.Errorf("%+v came to %+v; want %+v", e.x, r, e.want)
		}
	}
}

// P18.1: a call that may not be begins, has its point, and is done in one tick, with Bad; whatever waits.
func TestBadEvents(t *testing.T) {
	for _, x := range []api.Call{
		{}, {Op: -1}, {Op: 8}, {Op: math.MinInt}, {Op: math.MaxInt}, put("", 3, 5), try("123456789012345678901", 3, 5), query(""),
		window("a", 10, 10), window("a", 10, 0), window("", 0, 10), move(-1, 0), move(2, 0), move(0, 2), move(0, -1), move(math.MaxInt, math.MinInt),
	} {
		m := made(t, tumbling(2, 2, 1), []api.Call{shut()}, []api.Call{x, x})
		does(t, m, 3)
		events(t, m, atOnce(1, 0, x, api.Bad, 1))
		does(t, m, 2, 3)
		events(t, m, atOnce(1, 0, x, api.Bad, 1), api.Event{Call: shut(), Begin: 2, Point: 2}, atOnce(1, 1, x, api.Bad, 3))
		codes(t, m, 1, api.Bad, api.Bad)
	}
}

// P18.1: a keyed call of a closed machine begins, has its point, and is done in one tick, with Closed; so does one that changes
// the control, once it can be held.
func TestClosedEvents(t *testing.T) {
	for _, x := range []api.Call{put("a", 3, 5), try("a", 3, 5), window("a", 0, 10), query("a")} {
		m := made(t, tumbling(1, 1, 1), []api.Call{shut()}, []api.Call{x})
		does(t, m, 1, 2)
		events(t, m, api.Event{Call: shut(), Begin: 1, Point: 1}, atOnce(1, 0, x, api.Closed, 2))
	}
	for _, x := range []api.Call{advance(10), advance(math.MinInt64), move(0, 0), shut()} {
		m := made(t, tumbling(1, 1, 1), []api.Call{shut()}, []api.Call{x, x})
		does(t, m, 1, 2) // it begins, though another one has the control
		idles(t, m, 2)
		first := api.Event{Call: shut(), Begin: 1, Point: 1}
		events(t, m, first, api.Event{Client: 1, Call: x, Begin: 2})
		does(t, m, 1, 2, 2)
		first.End = 4
		second := api.Event{Client: 1, Call: x, Reply: api.Reply{Code: api.Closed}, Begin: 2, Point: 5, End: 5}
		events(t, m, first, second, atOnce(1, 1, x, api.Closed, 6))
		if m.Mark() != api.Least {
			t.Errorf("Mark() = %d", m.Mark())
		}
	}
}

// P18.1: an Advance that raises nothing begins, has its point, and is done in one tick, with Stale.
func TestStaleEvents(t *testing.T) {
	m := made(t, tumbling(1, 1, 1), []api.Call{advance(math.MinInt64), advance(7), advance(7), advance(6), advance(8)})
	does(t, m, 1, 1, 1, 0, 1, 1, 1, 1)
	events(t, m,
		atOnce(0, 0, advance(math.MinInt64), api.Stale, 1),
		api.Event{N: 1, Call: advance(7), Begin: 2, Point: 2, End: 5},
		atOnce(0, 2, advance(7), api.Stale, 6),
		atOnce(0, 3, advance(6), api.Stale, 7),
		api.Event{N: 4, Call: advance(8), Begin: 8, Point: 8},
	)
	codes(t, m, 0, api.Stale, api.OK, api.Stale, api.Stale)
}

// P18.1: a TryIngest whose mailbox is full begins, has its point, and is done in one tick, with Full; an Ingest waits.
func TestFullEvents(t *testing.T) {
	x, y, z := put("a", 3, 5), try("a", 4, 6), put("a", 5, 7)
	m := made(t, tumbling(1, 1, 1), []api.Call{x}, []api.Call{y, y}, []api.Call{z})
	does(t, m, 1, 2, 3)
	idles(t, m, 3)
	first, second, third := api.Event{Call: x, Begin: 1}, atOnce(1, 0, y, api.Full, 2), api.Event{Client: 2, Call: z, Begin: 3}
	events(t, m, first, second, third)
	does(t, m, 0, 2, 1)
	idles(t, m, 3)
	first.Point, first.End = 5, 7
	fourth := api.Event{Client: 1, N: 1, Call: y, Begin: 6}
	events(t, m, first, second, third, fourth)
	does(t, m, 0, 3, 0, 2, 3)
	third.Point, third.End = 11, 13
	fourth.Point, fourth.End = 9, 12
	events(t, m, first, second, third, fourth)
	codes(t, m, 1, api.Full, api.OK)
}

// P18.1: events stand in the order in which their calls began, not in that of the clients, of the points or of the ends.
func TestOrderOfEvents(t *testing.T) {
	x := put("a", 3, 5)
	m := made(t, tumbling(1, 1, 3), []api.Call{x, x}, []api.Call{x, x}, []api.Call{x, x})
	does(t, m, 3, 1, 2) // 1 to 3: begun by clients 2, 0, 1
	does(t, m, 0, 0, 0) // 4 to 6: their points
	does(t, m, 2, 1, 3) // 7 to 9: their ends
	want := []api.Event{
		{Client: 2, Call: x, Begin: 1, Point: 4, End: 9},
		{Client: 0, Call: x, Begin: 2, Point: 5, End: 8},
		{Client: 1, Call: x, Begin: 3, Point: 6, End: 7},
	}
	events(t, m, want...)
	does(t, m, 2, 3) // 10, 11
	want = append(want, api.Event{Client: 1, N: 1, Call: x, Begin: 10}, api.Event{Client: 2, N: 1, Call: x, Begin: 11})
	events(t, m, want...)
	does(t, m, 0, 1, 2) // 12 to 14
	want[3].Point, want[3].End = 12, 14
	want = append(want, api.Event{N: 1, Call: x, Begin: 13})
	events(t, m, want...)
}

// P18.1: an Advance, a Rebalance, a Close has its point in the tick in which its client holds the control.
func TestControlEvents(t *testing.T) {
	m := made(t, tumbling(2, 2, 2), []api.Call{advance(10)}, []api.Call{move(0, 1)}, []api.Call{shut()})
	does(t, m, 2, 4, 3) // 1 to 3: all begin, and the first one has it
	want := []api.Event{
		{Call: advance(10), Begin: 1, Point: 1},
		{Client: 2, Call: shut(), Begin: 2},
		{Client: 1, Call: move(0, 1), Begin: 3},
	}
	events(t, m, want...)
	does(t, m, 2, 2)        // 5
	idles(t, m, 2, 3, 4)    // 8
	does(t, m, 0)           // 9
	idles(t, m, 2, 3, 4, 0) // 13: the other shard's Mark isn't done
	events(t, m, want...)
	does(t, m, 1, 2) // 15
	want[0].End = 15
	events(t, m, want...)
	does(t, m, 3) // 16
	want[2].Point = 16
	idles(t, m, 4) // 17
	events(t, m, want...)
	does(t, m, 3) // 18: Give
	room(t, m, 1, 0)
	does(t, m, 0, 3) // 20: Have
	room(t, m, 0, 1)
	idles(t, m, 3, 4, 0) // 23
	does(t, m, 1)        // 24
	idles(t, m, 4)       // 25: it is had, and its client isn't done
	events(t, m, want...)
	does(t, m, 3) // 26
	want[2].End = 26
	does(t, m, 4) // 27
	want[1].Point = 27
	events(t, m, want...)
	does(t, m, 4) // 28
	want[1].End = 28
	events(t, m, want...)
	for n := range 3 {
		codes(t, m, n, api.OK)
	}
}

// P18.1: one that came to Moved has no point there: it is asked anew, and its point is where that is done. That doesn't come
// up by itself, as what was put ahead of a group's freezing stands ahead of its Give: so the group is taken away.
func TestMovedEvents(t *testing.T) {
	for _, x := range []api.Call{put("a", 3, 5), try("a", 3, 5), window("a", 0, 10), query("a")} {
		m := made(t, tumbling(1, 1, 1), []api.Call{x})
		d := byHand(t, m, 0, shard.Msg{Kind: shard.Give})
		does(t, m, 1, 0) // 2: Moved
		idles(t, m, 0)   // 3
		want := api.Event{Call: x, Begin: 1}
		events(t, m, want)
		does(t, m, 1) // 4: anew
		room(t, m, 1)
		does(t, m, 0) // 5: Moved again
		events(t, m, want)
		codes(t, m, 0)
		byHand(t, m, 0, shard.Msg{Kind: shard.Have, State: d.State})
		does(t, m, 1) // 6
		idles(t, m, 1)
		events(t, m, want)
		does(t, m, 0) // 8
		want.Point = 8
		events(t, m, want)
		does(t, m, 1) // 9
		want.End = 9
		events(t, m, want)
		codes(t, m, 0, api.OK)
		if !m.Over() {
			t.Error("it isn't over")
		}
	}
}

// byHand has a worker do a message, apart from the machine's picks.
func byHand(t *testing.T, m *Machine, n int, x shard.Msg) shard.Did {
	t.Helper()
	w := m.workers[n]
	if err := w.Box().Put(x); err != nil {
		t.Fatal(err)
	}
	d, is := w.Step(m.Mark(), false)
	if !is {
		t.Fatal("nothing was done")
	}
	return d
}

// P18.1: a Moved of one client is no point of another one's call, which has its own still.
func TestMovedAmongOthers(t *testing.T) {
	a, b := key(2, 0, 0), key(2, 1, 0)
	x, y := put(a, 3, 5), put(b, 4, 6)
	m := made(t, tumbling(1, 2, 4), []api.Call{y}, []api.Call{x}, []api.Call{y})
	d := byHand(t, m, 0, shard.Msg{Kind: shard.Give, Group: 0})
	does(t, m, 1, 2, 3, 0, 0, 0)
	want := []api.Event{{Call: y, Begin: 1, Point: 4}, {Client: 1, Call: x, Begin: 2}, {Client: 2, Call: y, Begin: 3, Point: 6}}
	events(t, m, want...)
	byHand(t, m, 0, shard.Msg{Kind: shard.Have, Group: 0, State: d.State})
	does(t, m, 2, 0, 2, 1, 3)
	want[0].End, want[2].End = 10, 11
	want[1].Point, want[1].End = 8, 9
	events(t, m, want...)
}

// P18.1: while it waits for a group that moves, a call has begun, and has no point; behind the move it is asked of the new
// owner.
func TestAskedBehindAMove(t *testing.T) {
	a := key(2, 0, 0)
	x := put(a, 3, 5)
	m := made(t, tumbling(2, 2, 1), []api.Call{move(0, 1)}, []api.Call{x, query(a)})
	does(t, m, 2, 3)
	idles(t, m, 3)
	does(t, m, 2)
	room(t, m, 1, 0)
	does(t, m, 0, 2, 1)
	want := []api.Event{{Call: move(0, 1), Begin: 1, Point: 1}, {Client: 1, Call: x, Begin: 2}}
	events(t, m, want...)
	does(t, m, 3) // 8: it is the new one's, though the Rebalance isn't done
	room(t, m, 0, 1)
	idles(t, m, 0)      // 9
	does(t, m, 1, 3, 2) // 12
	want[0].End = 12
	want[1].Point, want[1].End = 10, 11
	events(t, m, want...)
	does(t, m, 3, 1, 3)
	want = append(want, api.Event{Client: 1, N: 1, Call: query(a), Reply: api.Reply{Panes: []api.Pane{one(a, 0, 10, 5)}}, Begin: 13, Point: 14, End: 15})
	events(t, m, want...)
}

// P18.1: a Close's own client's later calls, and what was put ahead of the Close, come to Closed; of the latter each has its
// point at the worker.
func TestPutAheadOfClose(t *testing.T) {
	m := made(t, tumbling(1, 1, 2), []api.Call{put("a", 3, 5)}, []api.Call{shut(), query("a")}, []api.Call{put("b", 3, 5)})
	does(t, m, 1, 2)     // 2
	idles(t, m, 2)       // 3: a mailbox has a message
	does(t, m, 3)        // 4: refused
	does(t, m, 0, 2)     // 6
	does(t, m, 1, 2)     // 8
	idles(t, m, 0, 1, 2) // nothing is left
	events(t, m,
		api.Event{Call: put("a", 3, 5), Reply: api.Reply{Code: api.Closed}, Begin: 1, Point: 5, End: 7},
		api.Event{Client: 1, Call: shut(), Begin: 2, Point: 2, End: 6},
		atOnce(2, 0, put("b", 3, 5), api.Closed, 4),
		atOnce(1, 1, query("a"), api.Closed, 8),
	)
	if m.Panes() != 0 || !m.Over() {
		t.Errorf("Panes() = %d, Over() = %t", m.Panes(), m.Over())
	}
	room(t, m, 0)
}

// P18.1: there may be 6 clients of 30 calls each, and each of them is an event, with its number there.
func TestAllEvents(t *testing.T) {
	var lists [][]api.Call
	for n := range api.MaxClients {
		var l []api.Call
		for i := range api.MaxCalls {
			l = append(l, put("a", int64(i), int64(n)))
		}
		lists = append(lists, l)
	}
	m := made(t, tumbling(3, 5, 2), lists...)
	for range 30 * 6 * 3 {
		for n := range m.Threads() {
			m.Pick(n)
		}
	}
	list := m.Events()
	if !m.Over() || len(list) != 180 {
		t.Fatalf("Over() = %t, of %d events", m.Over(), len(list))
	}
	var next [api.MaxClients]int
	for i, e := range list {
		if e.N != next[e.Client] || e.Call != lists[e.Client][e.N] {
			t.Errorf("the %d-th event is %+v", i, e)
		}
		next[e.Client]++
	}
	if !slices.IsSortedFunc(list, func(a, b api.Event) int { return a.Begin - b.Begin }) {
		t.Errorf("the events are %+v", list)
	}
}
