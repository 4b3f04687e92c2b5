package oper

import (
	"math"
	"slices"
	"testing"

	"easel/api"
)

// P18.1: a worker's step is at the control's watermark, from the very tick in which an Advance raises it; what goes out then
// is put into the output, by an Ask as by a Mark.
func TestAtTheWatermark(t *testing.T) {
	a, b := key(1, 0, 0), key(1, 0, 1)
	m := made(t, tumbling(1, 1, 2),
		[]api.Call{put(a, 3, 5), put(a, 4, 7)}, []api.Call{put(b, 12, 6), query(b)}, []api.Call{advance(10), advance(20)})
	does(t, m, 1, 2, 0, 0, 1, 2)
	if m.Panes() != 2 {
		t.Fatalf("Panes() = %d", m.Panes())
	}
	does(t, m, 1) // put ahead of the Advance
	does(t, m, 3)
	if m.Mark() != 10 || m.Panes() != 2 {
		t.Fatalf("Mark() = %d, Panes() = %d", m.Mark(), m.Panes())
	}
	out(t, m)
	does(t, m, 0) // it is done at 10
	out(t, m, one(a, 0, 10, 5))
	does(t, m, 1)
	codes(t, m, 0, api.OK, api.Late)
	does(t, m, 3, 0, 3)
	out(t, m, one(a, 0, 10, 5))
	codes(t, m, 2, api.OK)
	does(t, m, 2, 3) // a query ahead of the second Advance's Mark
	if m.Mark() != 20 {
		t.Fatalf("Mark() = %d", m.Mark())
	}
	does(t, m, 3, 0)
	out(t, m, one(a, 0, 10, 5), one(b, 10, 20, 6))
	does(t, m, 2, 0, 3)
	if r := m.Replies(1); len(r) != 2 || len(r[1].Panes) != 0 {
		t.Errorf("the replies are %+v", r)
	}
	if m.Panes() != 0 || !m.Over() {
		t.Errorf("Panes() = %d, Over() = %t", m.Panes(), m.Over())
	}
}

// P18.1: panes are in the output in the order in which they went out: by the workers' ticks, not by shards.
func TestOrderOfOut(t *testing.T) {
	a, b, c := key(3, 0, 0), key(3, 1, 0), key(3, 2, 0)
	m := made(t, tumbling(3, 3, 1), []api.Call{put(a, 3, 5)}, []api.Call{put(b, 4, 6)}, []api.Call{put(c, 5, 7)}, []api.Call{advance(10)})
	does(t, m, 3, 4, 5, 0, 1, 2, 6, 6, 6, 6)
	does(t, m, 2)
	out(t, m, one(c, 0, 10, 7))
	does(t, m, 0)
	out(t, m, one(c, 0, 10, 7), one(a, 0, 10, 5))
	does(t, m, 1)
	want := []api.Pane{one(c, 0, 10, 7), one(a, 0, 10, 5), one(b, 0, 10, 6)}
	out(t, m, want...)
	idles(t, m, 0, 1, 2)
	does(t, m, 3, 4, 5, 6)
	out(t, m, want...)
	if m.Panes() != 0 || !m.Over() {
		t.Errorf("Panes() = %d, Over() = %t", m.Panes(), m.Over())
	}
}

// P18.1: a worker's step goes by whether the control is closed: from the Close's first tick on.
func TestClosedOrNot(t *testing.T) {
	m := made(t, tumbling(1, 1, 3), []api.Call{put("a", 3, 5)}, []api.Call{put("b", 3, 5)}, []api.Call{try("c", 3, 5)}, []api.Call{shut()})
	does(t, m, 1, 2, 3, 0, 4, 0, 0, 1, 2, 3, 4)
	codes(t, m, 0, api.OK)
	codes(t, m, 1, api.Closed)
	codes(t, m, 2, api.Closed)
	codes(t, m, 3, api.OK)
	if m.Panes() != 1 || !m.Over() {
		t.Errorf("Panes() = %d, Over() = %t", m.Panes(), m.Over())
	}
	out(t, m)
	room(t, m, 0)
}

// P18.1: the watermark is Least at first, and the Advances' that raised it from their points on.
func TestMark(t *testing.T) {
	m := made(t, tumbling(1, 1, 1), []api.Call{
		advance(math.MinInt64), advance(math.MinInt64 + 1), advance(-5), advance(-6), advance(0), advance(math.MaxInt64), advance(7),
	})
	mark := int64(api.Least)
	for _, x := range []struct {
		time  int64
		rises bool
	}{{math.MinInt64, false}, {math.MinInt64 + 1, true}, {-5, true}, {-6, false}, {0, true}, {math.MaxInt64, true}, {7, false}} {
		if m.Mark() != mark {
			t.Fatalf("ahead of %d: Mark() = %d; want %d", x.time, m.Mark(), mark)
		}
		does(t, m, 1)
		if x.rises {
			mark = x.time
		}
		if m.Mark() != mark {
			t.Fatalf("at %d: Mark() = %d; want %d", x.time, m.Mark(), mark)
		}
		if x.rises {
			does(t, m, 1, 0, 1)
		}
	}
	codes(t, m, 0, api.Stale, api.OK, api.OK, api.Stale, api.OK, api.OK, api.Stale)
}

// crew is a machine of two shards, of which one client changes the control, and three others have a keyed call each.
type crew struct {
	*Machine
	who    int   // the thread of the one that changes the control
	others []int // those of the others
}

func crewed(t *testing.T, who int, x api.Call, keyed ...api.Call) crew {
	t.Helper()
	c := crew{who: 2 + who}
	var lists [][]api.Call
	for n := range 1 + len(keyed) {
		if n == who {
			lists = append(lists, []api.Call{x})
			continue
		}
		lists = append(lists, []api.Call{keyed[len(c.others)]})
		c.others = append(c.others, 2+n)
	}
	c.Machine = made(t, tumbling(2, 2, 4), lists...)
	return c
}

// points holds which threads' calls, of those that have begun, had their point.
func (c crew) points(t *testing.T, threads ...int) {
	t.Helper()
	for _, e := range c.Events() {
		if had := e.Point > 0; had != slices.Contains(threads, 2+e.Client) {
			t.Fatalf("%+v; there had their point: %v", e, threads)
		}
	}
}

// ends holds that all end now, one behind the other, each with OK.
func (c crew) ends(t *testing.T, threads ...int) {
	t.Helper()
	for _, n := range threads {
		does(t, c.Machine, n)
		codes(t, c.Machine, n-2, api.OK)
	}
	if !c.Over() {
		t.Fatal("it isn't over")
	}
}

// P18.1: who asked is told, whoever else waits: each Ask's client of its own, ahead of the Marks that stand behind them, and
// the Advance's one of these.
func TestToldOfMarks(t *testing.T) {
	a, b := key(2, 0, 0), key(2, 1, 0)
	for who := range 4 {
		c := crewed(t, who, advance(10), put(a, 13, 5), put(b, 14, 6), query(a))
		m, x, y, z := c.Machine, c.others[0], c.others[1], c.others[2]
		does(t, m, x, y, z, c.who, c.who, c.who)
		idles(t, m, x, y, z, c.who)
		does(t, m, 0)
		c.points(t, c.who, x)
		idles(t, m, y, z, c.who)
		does(t, m, 1)
		c.points(t, c.who, x, y)
		idles(t, m, z, c.who)
		does(t, m, 0)
		c.points(t, c.who, x, y, z)
		idles(t, m, c.who)
		does(t, m, 0)
		idles(t, m, c.who)
		does(t, m, 1)
		c.ends(t, z, y, c.who, x)
		if r := m.Replies(z - 2); len(r[0].Panes) != 1 {
			t.Errorf("the query came to %+v", r)
		}

		c = crewed(t, who, advance(10), put(a, 13, 5), put(b, 14, 6), query(a))
		m = c.Machine
		does(t, m, c.who, c.who, c.who, z, y, x, 1, 0)
		c.points(t, c.who)
		idles(t, m, x, y, z)
		does(t, m, c.who, 0)
		c.points(t, c.who, z)
		idles(t, m, x, y)
		does(t, m, 1, 0)
		c.ends(t, x, y, z)
		if r := m.Replies(z - 2); len(r[0].Panes) != 0 {
			t.Errorf("the query came to %+v", r)
		}
	}
}

// P18.1: likewise of a Give, and a Have, that Asks stand ahead of, or behind.
func TestToldOfGiveAndHave(t *testing.T) {
	b, d := key(2, 1, 0), key(2, 1, 1)
	for who := range 4 {
		c := crewed(t, who, move(0, 1), put(b, 3, 5), put(d, 4, 6), query(b))
		m, x, y, z := c.Machine, c.others[0], c.others[1], c.others[2]
		does(t, m, c.who, c.who, y, x, z, 0)
		c.points(t, c.who)
		idles(t, m, x, y, z)
		does(t, m, c.who) // Have, behind three Asks
		room(t, m, 0, 4)
		for i, n := range []int{y, x, z} {
			does(t, m, 1)
			idles(t, m, c.who)
			c.points(t, append([]int{c.who}, []int{y, x, z}[:i+1]...)...)
			does(t, m, n)
		}
		does(t, m, 1)
		c.ends(t, c.who)

		c = crewed(t, who, move(1, 0), put(b, 3, 5), put(d, 4, 6), query(b))
		m = c.Machine
		does(t, m, x, y, c.who, c.who) // Give, behind two Asks
		does(t, m, z)                  // it begins, and waits for the group
		room(t, m, 0, 3)
		does(t, m, 1)
		c.points(t, c.who, x)
		idles(t, m, c.who, y, z)
		does(t, m, 1)
		c.points(t, c.who, x, y)
		idles(t, m, c.who, z)
		does(t, m, 1, c.who)
		idles(t, m, c.who, z)
		does(t, m, 0, z, 0)
		c.points(t, c.who, x, y, z)
		c.ends(t, y, z, c.who, x)
		if r := m.Replies(z - 2); len(r[0].Panes) != 1 {
			t.Errorf("the query came to %+v", r)
		}
	}
}

// P18.1: of clients that wait for the same call's Ask each is told of its own, in the order in which they asked.
func TestToldOfAlikeAsks(t *testing.T) {
	x := try("a", 3, 5)
	m := made(t, tumbling(1, 1, 6), []api.Call{x}, []api.Call{x}, []api.Call{x}, []api.Call{x}, []api.Call{x}, []api.Call{x})
	order := []int{4, 1, 6, 3, 2, 5}
	does(t, m, order...)
	for i, n := range order {
		does(t, m, 0)
		idles(t, m, order[i+1:]...)
		does(t, m, n)
		codes(t, m, n-1, api.OK)
	}
	for i, e := range m.Events() {
		if e.Client != order[i]-1 || e.Begin != 1+i {
			t.Errorf("the %d-th event is %+v", i, e)
		}
	}
}

// P18.1: panes are all workers'; what is under way from one to another one is no worker's, and is there again behind it.
func TestPanes(t *testing.T) {
	a, b := key(2, 0, 0), key(2, 1, 0)
	c := api.Config{Kind: api.Sliding, Size: 12, Slide: 4, Shards: 3, Groups: 2, Cap: 2}
	m := made(t, c, []api.Call{put(a, 3, 5), put(a, 7, 6), put(b, 3, 7), move(0, 2), query(a)})
	does(t, m, 3, 0, 3)
	if m.Panes() != 3 {
		t.Fatalf("Panes() = %d; want 3", m.Panes())
	}
	does(t, m, 3, 0, 3)
	if m.Panes() != 4 {
		t.Fatalf("Panes() = %d; want 4", m.Panes())
	}
	does(t, m, 3, 1, 3)
	if m.Panes() != 7 {
		t.Fatalf("Panes() = %d; want 7", m.Panes())
	}
	does(t, m, 3, 3)
	if m.Panes() != 7 {
		t.Fatalf("Panes() = %d ahead of Give", m.Panes())
	}
	for _, n := range []int{0, 3} {
		does(t, m, n)
		if m.Panes() != 3 {
			t.Fatalf("Panes() = %d, with a group under way; want 3", m.Panes())
		}
	}
	does(t, m, 2)
	if m.Panes() != 7 {
		t.Fatalf("Panes() = %d behind Have", m.Panes())
	}
	does(t, m, 3, 3, 2, 3)
	if r := m.Replies(0); !m.Over() || len(r) != 5 || len(r[4].Panes) != 4 {
		t.Errorf("Over() = %t, the replies are %+v", m.Over(), r)
	}
}

// P18.1, P18.3: Room tells each mailbox's messages, never above Cap, also with more clients than room.
func TestRoom(t *testing.T) {
	a, b := key(2, 0, 0), key(2, 1, 0)
	m := made(t, tumbling(2, 2, 1), []api.Call{put(a, 3, 5)}, []api.Call{put(a, 4, 6)}, []api.Call{put(b, 5, 7)}, []api.Call{put(b, 6, 8)}, []api.Call{advance(1)})
	room(t, m, 0, 0)
	does(t, m, 2)
	room(t, m, 1, 0)
	does(t, m, 3)
	idles(t, m, 3, 3)
	room(t, m, 1, 0)
	does(t, m, 4, 5)
	room(t, m, 1, 1)
	does(t, m, 6)
	idles(t, m, 6, 3, 5)
	room(t, m, 1, 1)
	does(t, m, 0)
	room(t, m, 0, 1)
	does(t, m, 6)
	idles(t, m, 6, 3)
	room(t, m, 1, 1)
	does(t, m, 1)
	room(t, m, 1, 0)
	does(t, m, 5)
	idles(t, m, 6)
	room(t, m, 1, 1)
	does(t, m, 0, 3, 1, 6, 0, 1)
	room(t, m, 0, 0)
	does(t, m, 2, 3, 4, 5, 6)
	if !m.Over() {
		t.Error("it isn't over")
	}
}

// P18.3: no mailbox has more than Cap messages, at each pick, with all clients at one worker; and each Cap is reached, while
// there are as many clients.
func TestRoomOfEachCap(t *testing.T) {
	for most := 1; most <= api.MaxCap; most++ {
		for clients := 1; clients <= api.MaxClients; clients++ {
			var lists [][]api.Call
			for range clients {
				lists = append(lists, slices.Repeat([]api.Call{put("a", 3, 5)}, 5))
			}
			m := made(t, tumbling(1, 1, most), lists...)
			high, want := 0, min(most, clients)
			for i := 0; !m.Over() && i < 10000; i++ {
				m.Pick(i % m.Threads())
				if i%(3*clients) != 0 {
					m.Pick(1 + i%clients)
				}
				list := m.Room()
				if len(list) != 1 || list[0] > most {
					t.Fatalf("Cap %d: Room() = %v", most, list)
				}
				high = max(high, list[0])
			}
			if !m.Over() || high != want {
				t.Errorf("Cap %d, %d clients: Over() = %t; the most was %d, and not %d", most, clients, m.Over(), high, want)
			}
		}
	}
}
