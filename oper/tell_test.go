package oper

import (
	"slices"
	"testing"

	"easel/api"
	"easel/call"
)

// told is all that a machine tells.
type told struct {
	threads, panes int
	over           bool
	mark           int64
	events         []api.Event
	out            []api.Pane
	replies        [][]api.Reply
	room           []int
}

func tells(m *Machine) told {
	x := told{threads: m.Threads(), panes: m.Panes(), over: m.Over(), mark: m.Mark(), events: m.Events(), out: m.Out(), room: m.Room()}
	for n := range api.MaxClients {
		x.replies = append(x.replies, m.Replies(n))
	}
	return x
}

func sameTold(a, b told) bool {
	return a.threads == b.threads && a.panes == b.panes && a.over == b.over && a.mark == b.mark &&
		slices.EqualFunc(a.events, b.events, sameEvent) && slices.Equal(a.out, b.out) && slices.Equal(a.room, b.room) &&
		slices.EqualFunc(a.replies, b.replies, func(x, y []api.Reply) bool { return slices.EqualFunc(x, y, call.Same) })
}

// spoil writes over all that was told, and over the room behind it.
func spoil(x told) {
	bad := api.Pane{Key: "spoilt", Agg: api.Agg{Count: -9}}
	for _, list := range x.replies {
		for i := range list {
			spoilPanes(list[i].Panes, bad)
			list[i] = api.Reply{Code: -9, Panes: []api.Pane{bad}}
		}
		_ = append(list, api.Reply{Code: -9})
	}
	for i := range x.events {
		spoilPanes(x.events[i].Reply.Panes, bad)
		x.events[i] = api.Event{Client: -9, N: -9, Begin: -9, Point: -9, End: -9, Reply: api.Reply{Code: -9}}
	}
	_ = append(x.events, api.Event{Client: -9})
	spoilPanes(x.out, bad)
	for i := range x.room {
		x.room[i] = -9
	}
	_ = append(x.room, -9)
}

func spoilPanes(l []api.Pane, p api.Pane) {
	for i := range l {
		l[i] = p
	}
	_ = append(l, p)
}

// busy are clients whose calls ask for panes, have some go out, move groups, and close.
func busy() (api.Config, [][]api.Call) {
	a, b := key(3, 0, 0), key(3, 1, 0)
	c := api.Config{Kind: api.Sliding, Size: 10, Slide: 5, Late: 2, Shards: 2, Groups: 3, Cap: 1}
	return c, [][]api.Call{
		{put(a, 3, 5), query(a), put(a, 9, 6), window(a, 0, 10), query(a), query(a)},
		{put(b, 4, 7), query(b), advance(9), query(b), advance(17), query(b), shut()},
		{try(a, 7, 8), move(0, 1), query(a), try(b, 8, 9), move(1, 0), query(b)},
	}
}

// P18.2: what is told is new memory, at each tick, and shares none with what was told at that tick once more.
func TestToldIsNew(t *testing.T) {
	c, lists := busy()
	m, still := made(t, c, lists...), made(t, c, lists...)
	panes := 0
	for i := range 400 {
		for range 2 {
			x, y := tells(m), tells(m)
			spoil(x)
			if !sameTold(y, tells(m)) || !sameTold(y, tells(still)) {
				t.Fatalf("behind %d picks: the machine tells %+v; want %+v", i, tells(m), tells(still))
			}
			for _, e := range y.events {
				panes += len(e.Reply.Panes)
			}
		}
		n := i * 7 % m.Threads()
		if m.Pick(n) != still.Pick(n) {
			t.Fatalf("the %d-th pick came to something else", i)
		}
	}
	if !m.Over() || panes == 0 || len(m.Out()) == 0 {
		t.Errorf("Over() = %t, %d panes were told of, Out() = %+v", m.Over(), panes, m.Out())
	}
}

// P18.2: no two lists of one answer share memory: what a list is made longer by is not seen in the next one.
func TestListsApart(t *testing.T) {
	c, lists := busy()
	m := made(t, c, lists...)
	for i := range 400 {
		m.Pick(i * 7 % m.Threads())
	}
	list, still := m.Events(), m.Events()
	for i := range list {
		_ = append(list[i].Reply.Panes, one("spoilt", 0, 1, 1))
		spoilPanes(list[i].Reply.Panes, one("spoilt", 0, 1, 1))
		list[i].Reply = still[i].Reply
		if !slices.EqualFunc(list, still, sameEvent) {
			t.Fatalf("events are %+v; want %+v", list, still)
		}
	}
	for n := range lists {
		list, still := m.Replies(n), m.Replies(n)
		for i := range list {
			spoilPanes(list[i].Panes, one("spoilt", 0, 1, 1))
			list[i] = still[i]
			if !slices.EqualFunc(list, still, call.Same) {
				t.Fatalf("replies are %+v; want %+v", list, still)
			}
		}
	}
}

// P18.2: what was told stays as it was while the machine goes on.
func TestToldStays(t *testing.T) {
	c, lists := busy()
	m := made(t, c, lists...)
	var was []told
	for i := range 400 {
		was = append(was, tells(m))
		m.Pick(i * 7 % m.Threads())
	}
	again := made(t, c, lists...)
	for i, x := range was {
		if !sameTold(x, tells(again)) {
			t.Fatalf("what was told behind %d picks is %+v now; want %+v", i, x, tells(again))
		}
		again.Pick(i * 7 % again.Threads())
	}
}

// R2: the clients' calls that are handed in are neither changed nor kept.
func TestCallsAreNotKept(t *testing.T) {
	c, lists := busy()
	_, still := busy()
	m, want := made(t, c, lists...), made(t, c, still...)
	_, fresh := busy()
	for i := range 400 {
		switch i {
		case 0, 3, 50:
			for n := range lists {
				for k := range lists[n] {
					lists[n][k] = api.Call{Op: 1 + i, Key: "spoilt", Group: -9}
				}
				_ = append(lists[n][:0], shut())
			}
		case 10:
			for n := range lists {
				lists[n] = nil
			}
		}
		n := i * 7 % want.Threads()
		if m.Pick(n) != want.Pick(n) || !sameTold(tells(m), tells(want)) {
			t.Fatalf("behind %d picks: the machine tells %+v; want %+v", i, tells(m), tells(want))
		}
	}
	if !m.Over() || !slices.EqualFunc(still, fresh, slices.Equal) {
		t.Errorf("Over() = %t, the calls are %+v; want %+v", m.Over(), still, fresh)
	}
}

// R2: one list of calls may be several clients', and one may be a piece of another one.
func TestCallsOfOneList(t *testing.T) {
	c := tumbling(1, 1, 2)
	list := []api.Call{put("a", 3, 5), query("a"), put("a", 4, 6)}
	m, want := made(t, c, list, list[:1], list[1:]), made(t, c, slices.Clone(list), []api.Call{list[0]}, slices.Clone(list[1:]))
	for i := range 100 {
		n := i * 3 % 4
		if m.Pick(n) != want.Pick(n) || !sameTold(tells(m), tells(want)) {
			t.Fatalf("behind %d picks: the machine tells %+v; want %+v", i, tells(m), tells(want))
		}
	}
	if !m.Over() || len(m.Events()) != 6 {
		t.Errorf("Over() = %t, Events() = %+v", m.Over(), m.Events())
	}
}

// P18.1: two machines side by side have nothing in common.
func TestSideBySide(t *testing.T) {
	c, lists := busy()
	alone := made(t, c, lists...)
	var was []told
	for i := range 400 {
		alone.Pick(i * 7 % alone.Threads())
		was = append(was, tells(alone))
	}
	x, y := made(t, c, lists...), made(t, c, lists...)
	for i := range 400 {
		x.Pick(i * 7 % x.Threads())
		if i%10 == 0 {
			y.Pick(i / 10 * 7 % y.Threads())
			if !sameTold(tells(y), was[i/10]) {
				t.Fatalf("behind %d picks: one machine tells %+v; alone %+v", i/10, tells(y), was[i/10])
			}
		}
		if !sameTold(tells(x), was[i]) {
			t.Fatalf("behind %d picks: one machine tells %+v; alone %+v", i, tells(x), was[i])
		}
	}
	if !x.Over() || y.Over() {
		t.Errorf("Over() = %t, %t", x.Over(), y.Over())
	}
}

// P18.1: what only tells changes nothing: however often it is asked, the next pick comes to the same.
func TestTellingChangesNothing(t *testing.T) {
	c, lists := busy()
	m, asked := made(t, c, lists...), made(t, c, lists...)
	for i := range 400 {
		for range 3 {
			tells(asked)
			for _, n := range edges() {
				asked.Replies(n)
			}
		}
		n := i * 7 % m.Threads()
		if m.Pick(n) != asked.Pick(n) {
			t.Fatalf("the %d-th pick came to something else", i)
		}
	}
	if !sameTold(tells(m), tells(asked)) {
		t.Errorf("the machine tells %+v; want %+v", tells(asked), tells(m))
	}
}
