package oper

import (
	"errors"
	"math"
	"slices"
	"strconv"
	"testing"

	"easel/api"
	"easel/call"
	"easel/fnv"
)

func tumbling(shards, groups, room int) api.Config {
	return api.Config{Kind: api.Tumbling, Size: 10, Shards: shards, Groups: groups, Cap: room}
}

func put(key string, time, value int64) api.Call {
	return api.Call{Op: api.Ingest, Key: key, Time: time, Value: value}
}

func try(key string, time, value int64) api.Call {
	return api.Call{Op: api.TryIngest, Key: key, Time: time, Value: value}
}

func advance(time int64) api.Call { return api.Call{Op: api.Advance, Time: time} }

func window(key string, start, end int64) api.Call {
	return api.Call{Op: api.QueryPane, Key: key, Time: start, End: end}
}

func query(key string) api.Call { return api.Call{Op: api.QueryKey, Key: key} }

func move(group, shard int) api.Call {
	return api.Call{Op: api.Rebalance, Group: group, Shard: shard}
}

func shut() api.Call { return api.Call{Op: api.Close} }

// key is the i-th key of the n-th group of so many.
func key(groups, n, i int) string {
	for k := 0; ; k++ {
		name := "k" + strconv.Itoa(k)
		if fnv.Group(name, groups) != n {
			continue
		}
		if i == 0 {
			return name
		}
		i--
	}
}

// edges are numbers of which most are nothing's.
func edges() []int {
	return []int{
		math.MinInt, math.MinInt + 1, math.MinInt32, -1 << 16, -256, -17, -9, -8, -2, -1, 0, 1, 2, 7, 8, 9, 15, 16, 17, 255, 256,
		257, 1 << 16, math.MaxInt32, 1 << 32, 1<<32 + 1, math.MaxInt - 1, math.MaxInt,
	}
}

func made(t *testing.T, c api.Config, clients ...[]api.Call) *Machine {
	t.Helper()
	m, err := New(c, clients)
	if err != nil {
		t.Fatalf("New(%+v, %+v): %v", c, clients, err)
	}
	return m
}

// does picks threads of which each does something.
func does(t *testing.T, m *Machine, threads ...int) {
	t.Helper()
	for i, n := range threads {
		if !m.Pick(n) {
			t.Fatalf("the %d-th pick, of thread %d, did nothing", i, n)
		}
	}
}

// idles picks threads of which none does anything.
func idles(t *testing.T, m *Machine, threads ...int) {
	t.Helper()
	for i, n := range threads {
		if m.Pick(n) {
			t.Fatalf("the %d-th pick, of thread %d, did something", i, n)
		}
	}
}

func sameEvent(a, b api.Event) bool {
	return a.Client == b.Client && a.N == b.N && a.Call == b.Call && call.Same(a.Reply, b.Reply) &&
		a.Begin == b.Begin && a.Point == b.Point && a.End == b.End
}

func events(t *testing.T, m *Machine, want ...api.Event) {
	t.Helper()
	if list := m.Events(); !slices.EqualFunc(list, want, sameEvent) {
		t.Fatalf("Events() = %+v; want %+v", list, want)
	}
}

func room(t *testing.T, m *Machine, want ...int) {
	t.Helper()
	if list := m.Room(); !slices.Equal(list, want) {
		t.Fatalf("Room() = %v; want %v", list, want)
	}
}

func out(t *testing.T, m *Machine, want ...api.Pane) {
	t.Helper()
	if list := m.Out(); !slices.Equal(list, want) {
		t.Fatalf("Out() = %v; want %v", list, want)
	}
}

// codes holds what a client's calls came to, without their panes.
func codes(t *testing.T, m *Machine, n int, want ...int) {
	t.Helper()
	var list []int
	for _, r := range m.Replies(n) {
		list = append(list, r.Code)
	}
	if !slices.Equal(list, want) {
		t.Fatalf("client %d: the replies' codes are %v; want %v", n, list, want)
	}
}

// one is a pane of one value.
func one(key string, start, end, value int64) api.Pane {
	return api.Pane{Key: key, Span: api.Span{Start: start, End: end}, Agg: api.Agg{Count: 1, Sum: value, Min: value, Max: value}}
}

func many(clients, calls int) [][]api.Call {
	list := make([][]api.Call, clients)
	for n := range list {
		list[n] = make([]api.Call, calls)
	}
	return list
}

// wrong are configs of which each may not be, by one thing.
func wrong() []api.Config {
	list := []api.Config{{}}
	turned := func(c api.Config, turn func(*api.Config)) {
		turn(&c)
		list = append(list, c)
	}
	fine := tumbling(2, 4, 3)
	for _, n := range []int{math.MinInt, -1, 3, math.MaxInt} {
		turned(fine, func(c *api.Config) { c.Kind = n })
	}
	for _, n := range []int64{math.MinInt64, -1, 0} {
		turned(fine, func(c *api.Config) { c.Size = n })
		turned(fine, func(c *api.Config) { c.Kind, c.Gap = api.Session, n })
		turned(fine, func(c *api.Config) { c.Kind, c.Slide = api.Sliding, n })
	}
	turned(fine, func(c *api.Config) { c.Late = -1 })
	turned(fine, func(c *api.Config) { c.Late = math.MinInt64 })
	turned(fine, func(c *api.Config) { c.Kind, c.Size, c.Slide = api.Sliding, 17, 1 })
	for _, n := range []int{math.MinInt, -1, 0, 17, math.MaxInt} {
		turned(fine, func(c *api.Config) { c.Shards = n })
		turned(fine, func(c *api.Config) { c.Groups = n })
		turned(fine, func(c *api.Config) { c.Cap = n })
	}
	turned(fine, func(c *api.Config) { c.Shards = 9 })
	return list
}

// P18.1: ErrConfig of a config that may not be, ahead of ErrLarge; there is no machine then.
func TestNewConfig(t *testing.T) {
	clients := [][][]api.Call{nil, {}, many(1, 1), many(6, 30), many(7, 0), many(1, 31), many(9, 40)}
	for _, c := range wrong() {
		for _, l := range clients {
			m, err := New(c, l)
			if m != nil || err == nil || err != error(api.ErrConfig) {
				t.Errorf("New(%+v, %d clients) = %v, %v; want ErrConfig", c, len(l), m, err)
			}
		}
	}
}

// P18.1: ErrLarge of more than 6 clients, and of one that has more than 30 calls; there is no machine then.
func TestNewLarge(t *testing.T) {
	c := tumbling(2, 4, 3)
	lists := [][][]api.Call{many(7, 0), many(7, 1), many(7, 30), many(7, 31), many(8, 2), many(100, 0), many(1, 31), many(6, 31), many(2, 500)}
	for n := range 6 {
		l := many(6, 30)
		l[n] = append(l[n], shut())
		lists = append(lists, l)
		l = many(6, 0)
		l[n] = make([]api.Call, 31)
		lists = append(lists, l)
	}
	for _, l := range lists {
		m, err := New(c, l)
		if m != nil || err == nil || err != error(api.ErrLarge) {
			t.Errorf("New of %d clients = %v, %v; want ErrLarge", len(l), m, err)
		}
		var code api.Code
		if !errors.As(err, &code) || code != 9 {
			t.Errorf("the error is %v", err)
		}
	}
	for clients := range 7 {
		for _, calls := range []int{0, 1, 29, 30} {
			m := made(t, c, many(clients, calls)...)
			if m.Threads() != 2+clients || m.Over() != (clients*calls == 0) {
				t.Errorf("%d clients of %d calls: Threads() = %d, Over() = %t", clients, calls, m.Threads(), m.Over())
			}
		}
	}
}

// P18.1: each worker has the groups that it owns at first, more shards than groups or not.
func TestWorkersGroups(t *testing.T) {
	for shards := 1; shards <= api.MaxShards; shards++ {
		for groups := 1; groups <= api.MaxGroups; groups++ {
			m := made(t, tumbling(shards, groups, 1))
			var want [api.MaxShards][]int
			for n := range groups {
				want[n%shards] = append(want[n%shards], n)
			}
			for n, w := range m.workers {
				if list := w.Groups(); !slices.Equal(list, want[n]) {
					t.Errorf("of %d shards, %d groups: worker %d has %v; want %v", shards, groups, n, list, want[n])
				}
			}
		}
	}
}

// P18.1: a key's record goes into the mailbox of the shard that owns its group at first, and that worker takes it.
func TestWhoseMailbox(t *testing.T) {
	for _, x := range [][2]int{{1, 1}, {1, 16}, {2, 3}, {3, 2}, {8, 1}, {8, 16}, {5, 16}} {
		shards, groups := x[0], x[1]
		for n := range groups {
			m := made(t, tumbling(shards, groups, 1), []api.Call{put(key(groups, n, 0), 3, 5)})
			does(t, m, shards)
			want := make([]int, shards)
			want[n%shards] = 1
			room(t, m, want...)
			for thread := range shards {
				if m.Pick(thread) != (thread == n%shards) {
					t.Errorf("of %d shards, %d groups: worker %d did, or didn't, a record of group %d", shards, groups, thread, n)
				}
			}
			does(t, m, shards)
			codes(t, m, 0, api.OK)
			if m.Panes() != 1 || !m.Over() {
				t.Errorf("Panes() = %d, Over() = %t", m.Panes(), m.Over())
			}
		}
	}
}

// P18.1: there are as many threads as workers and clients, and this stays so.
func TestThreads(t *testing.T) {
	for shards := 1; shards <= api.MaxShards; shards++ {
		for clients := range api.MaxClients + 1 {
			m := made(t, tumbling(shards, 4, 1), many(clients, 1)...)
			for range 3 {
				if n := m.Threads(); n != shards+clients {
					t.Errorf("of %d shards, %d clients: Threads() = %d", shards, clients, n)
				}
				for thread := range shards + clients {
					m.Pick(thread)
				}
			}
			if len(m.Events()) != clients || !m.Over() {
				t.Errorf("of %d clients: Events() = %+v", clients, m.Events())
			}
		}
	}
}

// P18.1: a new machine has nothing yet.
func TestAtFirst(t *testing.T) {
	m := made(t, tumbling(3, 4, 2), []api.Call{put("a", 3, 5)}, nil, []api.Call{})
	if m.Over() || m.Panes() != 0 || m.Mark() != math.MinInt64 || m.Mark() != api.Least {
		t.Errorf("Over() = %t, Panes() = %d, Mark() = %d", m.Over(), m.Panes(), m.Mark())
	}
	events(t, m)
	out(t, m)
	room(t, m, 0, 0, 0)
	for n := range 3 {
		codes(t, m, n)
	}
}

// P18.1: without clients, or without calls, all is over at once, and stays so; there is nothing to be done.
func TestNothingToDo(t *testing.T) {
	for _, l := range [][][]api.Call{nil, {}, {nil}, {{}}, {{}, nil, {}}, many(6, 0)} {
		m := made(t, tumbling(2, 4, 1), l...)
		for range 2 {
			if !m.Over() || m.Threads() != 2+len(l) || m.Panes() != 0 || m.Mark() != api.Least {
				t.Errorf("Over() = %t, Threads() = %d, Panes() = %d, Mark() = %d", m.Over(), m.Threads(), m.Panes(), m.Mark())
			}
			events(t, m)
			out(t, m)
			room(t, m, 0, 0)
			for _, n := range edges() {
				codes(t, m, n)
			}
			for thread := range m.Threads() {
				idles(t, m, thread)
			}
		}
	}
}

// P18.1: a thread that there isn't isn't picked, and that is no tick.
func TestPickOfNoThread(t *testing.T) {
	for _, shards := range []int{1, 2, 8} {
		for clients := range api.MaxClients + 1 {
			m := made(t, tumbling(shards, 4, 1), many(clients, 2)...)
			for _, n := range append(edges(), shards+clients, shards+clients+1) {
				if n >= 0 && n < shards+clients {
					continue
				}
				idles(t, m, n)
				events(t, m)
			}
			if clients == 0 {
				continue
			}
			does(t, m, shards)
			idles(t, m, shards+clients, -1, math.MinInt, math.MaxInt)
			does(t, m, shards)
			bad := api.Reply{Code: api.Bad}
			events(t, m, api.Event{Reply: bad, Begin: 1, Point: 1, End: 1}, api.Event{N: 1, Reply: bad, Begin: 2, Point: 2, End: 2})
		}
	}
}

// P18.1: a pick of a worker whose mailbox is empty, of a client that waits, and of one that is over, does nothing, and is a
// tick.
func TestIdleTicks(t *testing.T) {
	x, y := put("a", 3, 5), query("a")
	m := made(t, tumbling(1, 1, 1), []api.Call{x}, []api.Call{y}, nil)
	idles(t, m, 0)       // 1: the mailbox is empty
	does(t, m, 1)        // 2
	idles(t, m, 1, 1, 3) // to 5: it waits for its Ask; that of no calls is over
	does(t, m, 2)        // 6: it begins, though the mailbox is full
	idles(t, m, 2)       // 7: it is full still
	does(t, m, 0)        // 8
	idles(t, m, 0)       // 9: the mailbox is empty again
	does(t, m, 1)        // 10
	idles(t, m, 1, 1, 9) // to 12: it is over; there is no thread 9
	does(t, m, 2, 0, 2)  // to 15
	idles(t, m, 2, 1, 0, 3)
	events(t, m,
		api.Event{Call: x, Begin: 2, Point: 8, End: 10},
		api.Event{Client: 1, Call: y, Reply: api.Reply{Panes: []api.Pane{one("a", 0, 10, 5)}}, Begin: 6, Point: 14, End: 15},
	)
	if !m.Over() {
		t.Error("it isn't over")
	}
}

// P18.1: all is over once the last client's last call is done, whichever client's that is.
func TestOver(t *testing.T) {
	for last := range 3 {
		m := made(t, tumbling(1, 1, 4), many(3, 2)...)
		for n := range 3 {
			if n != last {
				does(t, m, 1+n, 1+n)
			}
		}
		if m.Over() {
			t.Fatal("it is over, though a client has calls")
		}
		does(t, m, 1+last)
		if m.Over() {
			t.Fatal("it is over, though a client has a call")
		}
		does(t, m, 1+last)
		if !m.Over() {
			t.Fatal("it isn't over")
		}
	}
	m := made(t, tumbling(1, 1, 4), []api.Call{put("a", 3, 5)})
	for _, thread := range []int{1, 0} {
		does(t, m, thread)
		if m.Over() {
			t.Fatal("it is over ahead of its call's end")
		}
	}
	does(t, m, 1)
	if !m.Over() {
		t.Fatal("it isn't over")
	}
}

// P18.1: a client's replies are those of its calls that are done, each in that client's order; none, if there is no such
// client.
func TestReplies(t *testing.T) {
	m := made(t, tumbling(2, 2, 1),
		[]api.Call{put("a", 3, 5), {Op: 9}, query("a")}, []api.Call{advance(10), advance(10)}, nil)
	none := func() {
		t.Helper()
		for _, n := range edges() {
			if n < 0 || n > 2 {
				codes(t, m, n)
			}
		}
		codes(t, m, 3)
	}
	none()
	home := fnv.Group("a", 2)
	does(t, m, 2, home)
	codes(t, m, 0)
	does(t, m, 2)
	codes(t, m, 0, api.OK)
	does(t, m, 2)
	codes(t, m, 0, api.OK, api.Bad)
	does(t, m, 2, home)
	codes(t, m, 0, api.OK, api.Bad)
	does(t, m, 2)
	codes(t, m, 0, api.OK, api.Bad, api.OK)
	if r := m.Replies(0)[2]; !slices.Equal(r.Panes, []api.Pane{one("a", 0, 10, 5)}) {
		t.Errorf("the query came to %+v", r)
	}
	codes(t, m, 1)
	does(t, m, 3, 3, 3, 0, 1)
	codes(t, m, 1)
	does(t, m, 3)
	codes(t, m, 1, api.OK)
	does(t, m, 3)
	codes(t, m, 1, api.OK, api.Stale)
	codes(t, m, 0, api.OK, api.Bad, api.OK)
	codes(t, m, 2)
	none()
}
