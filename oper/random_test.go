package oper

import (
	"math"
	"math/rand"
	"slices"
	"testing"

	"easel/api"
	"easel/call"
	"easel/model"
)

// run is a machine, the same by the words, and a model that does its calls in the order of their points: tick by tick.
type run struct {
	t      *testing.T
	c      api.Config
	calls  int
	keys   []string
	m      *Machine
	p      *plain
	model  *model.Model
	points int // how many were there
}

func set(t *testing.T, c api.Config, clients [][]api.Call) *run {
	t.Helper()
	u := &run{t: t, c: c, m: made(t, c, clients...), p: laid(c, clients)}
	one, err := model.New(c)
	if err != nil {
		t.Fatal(err)
	}
	u.model = one
	for _, l := range clients {
		u.calls += len(l)
		for _, x := range l {
			if call.Keyed(x) && !slices.Contains(u.keys, x.Key) {
				u.keys = append(u.keys, x.Key)
			}
		}
	}
	return u
}

// pick picks a thread, here and there, and holds all that is told.
func (u *run) pick(thread int) bool {
	u.t.Helper()
	before := u.p.tick
	did, want := u.m.Pick(thread), u.p.pick(thread)
	if did != want {
		u.t.Fatalf("tick %d: Pick(%d) = %t; want %t", u.p.tick, thread, did, want)
	}
	x, y := tells(u.m), u.p.tells()
	if !sameTold(x, y) {
		u.t.Fatalf("tick %d, of thread %d: the machine tells\n%+v; want\n%+v", u.p.tick, thread, x, y)
	}
	for _, n := range x.room {
		if n > u.c.Cap {
			u.t.Fatalf("tick %d: Room() = %v, of room %d", u.p.tick, x.room, u.c.Cap)
		}
	}
	if u.p.tick > before {
		u.asModel(x)
	}
	return did
}

// asModel holds that the call whose point is in this tick came to what the model tells, and that of each key what went out is
// the beginning of the model's; while no Advance, or Rebalance, is under way, all stands as in the model.
func (u *run) asModel(x told) {
	u.t.Helper()
	advances, moves := false, false
	points := 0
	for _, e := range x.events {
		if e.Point > 0 {
			points++
		}
		if e.Point == u.p.tick {
			u.does(e)
		}
		if e.Point > 0 && e.End == 0 {
			advances = advances || e.Call.Op == api.Advance
			moves = moves || e.Call.Op == api.Rebalance
		}
	}
	if points > u.points+1 {
		u.t.Fatalf("tick %d: several calls had their point: %+v", u.p.tick, x.events)
	}
	u.points = points
	if x.mark != u.model.Mark() {
		u.t.Fatalf("tick %d: Mark() = %d; the model's is %d", u.p.tick, x.mark, u.model.Mark())
	}
	out, panes := u.model.Out(), 0
	for _, k := range u.keys {
		other := func(p api.Pane) bool { return p.Key != k }
		got, want := slices.DeleteFunc(slices.Clone(x.out), other), slices.DeleteFunc(slices.Clone(out), other)
		if len(got) > len(want) || !advances && len(got) < len(want) || !slices.Equal(got, want[:len(got)]) {
			u.t.Fatalf("tick %d: of %q there went out\n%+v; of the model\n%+v", u.p.tick, k, got, want)
		}
		panes += len(u.model.Panes(k))
	}
	if !advances && !moves && x.panes != panes {
		u.t.Fatalf("tick %d: Panes() = %d; the model has %d", u.p.tick, x.panes, panes)
	}
}

// does has the model do an event's call.
func (u *run) does(e api.Event) {
	u.t.Helper()
	if e.Reply.Code == api.Full && e.Call.Op == api.TryIngest {
		return
	}
	if want := u.model.Do(e.Call); !call.Same(e.Reply, want) {
		u.t.Fatalf("tick %d: %+v came to %+v; the model's reply is %+v", u.p.tick, e.Call, e.Reply, want)
	}
}

// rests picks threads in turn, till all is over, and holds that this is so within the number of chapter 21, and that nothing
// is left behind it.
func (u *run) rests() {
	u.t.Helper()
	for range (u.calls + 1) * (4*(u.c.Shards+u.calls) + 12) {
		if u.m.Over() {
			break
		}
		for n := range u.m.Threads() {
			u.pick(n)
		}
	}
	x := tells(u.m)
	if !x.over || len(x.events) != u.calls {
		u.t.Fatalf("it isn't over: %+v", x)
	}
	if slices.ContainsFunc(x.room, func(n int) bool { return n > 0 }) {
		u.t.Fatalf("it is over, and Room() = %v", x.room)
	}
	for n := range u.m.Threads() {
		if u.pick(n) {
			u.t.Fatalf("it is over, and thread %d did something", n)
		}
	}
}

// drawn is a config of small numbers.
func drawn(r *rand.Rand) api.Config {
	c := api.Config{Kind: r.Intn(3), Size: 1 + r.Int63n(16), Gap: 1 + r.Int63n(8), Late: r.Int63n(3) * r.Int63n(6)}
	c.Slide = 1 + r.Int63n(c.Size)
	c.Shards, c.Groups, c.Cap = 1+r.Intn(4), 1+r.Intn(5), 1+r.Intn(3)
	if r.Intn(8) == 0 {
		c.Shards, c.Groups, c.Cap = 1+r.Intn(api.MaxShards), 1+r.Intn(api.MaxGroups), 1+r.Intn(api.MaxCap)
	}
	return c
}

// drawnCall is a call, mostly one that may be, and a keyed one.
func drawnCall(r *rand.Rand, c api.Config, closes bool) api.Call {
	k := key(c.Groups, r.Intn(c.Groups), r.Intn(2))
	at := r.Int63n(60)
	switch n := r.Intn(100); {
	case n < 30:
		return put(k, at, r.Int63n(100)-50)
	case n < 52:
		return try(k, at, r.Int63n(100)-50)
	case n < 58:
		return window(k, at-at%c.Size, at-at%c.Size+c.Size)
	case n < 68:
		return query(k)
	case n < 80:
		return advance(at)
	case n < 93:
		return move(r.Intn(c.Groups), r.Intn(c.Shards))
	case n < 96 && closes:
		return shut()
	case n < 98:
		odd := []int64{math.MinInt64, math.MaxInt64, -1}
		return api.Call{Op: 1 + r.Intn(3), Key: k, Time: odd[r.Intn(3)], Value: odd[r.Intn(3)]}
	}
	some := edges()
	return api.Call{Op: some[r.Intn(len(some))], Key: k, Time: at, Group: some[r.Intn(len(some))], Shard: some[r.Intn(len(some))]}
}

func drawnClients(r *rand.Rand, c api.Config, clients, calls int) [][]api.Call {
	closes := r.Intn(3) == 0
	lists := make([][]api.Call, r.Intn(clients+1))
	for n := range lists {
		for range r.Intn(calls + 1) {
			lists[n] = append(lists[n], drawnCall(r, c, closes))
		}
	}
	return lists
}

// What is counted, beside codes.
const (
	idle = 7 + iota
	waits
	under
	sorts
)

// counts adds what came up.
func (u *run) counts(count *[sorts]int) {
	for _, e := range u.m.Events() {
		count[e.Reply.Code]++
		if call.Keyed(e.Call) && e.Point > e.Begin+20 {
			count[waits]++
		}
		if e.Call.Op == api.Rebalance && e.End > e.Point+10 {
			count[under]++
		}
	}
}

// P18.1, P18.3, T1, T2, T4, T5: whatever is picked, all that a machine tells is what the chapters' words say, at each tick;
// calls come to what the model tells, by the order of their points; and from wherever it stands all is over within so many
// rounds.
func TestRandomPicks(t *testing.T) {
	var count [sorts]int
	seed := int64(0)
	defer func() {
		if t.Failed() {
			t.Logf("seed %d", seed)
		}
	}()
	for ; seed < 2500; seed++ {
		r := rand.New(rand.NewSource(seed))
		c := drawn(r)
		u := set(t, c, drawnClients(r, c, api.MaxClients, 8))
		lazy := r.Intn(5) // how seldom a worker is picked: so that mailboxes are full
		for range r.Intn(250) {
			n := r.Intn(u.m.Threads())
			for range lazy {
				if n < c.Shards {
					n = r.Intn(u.m.Threads())
				}
			}
			if r.Intn(20) == 0 {
				n = edges()[r.Intn(len(edges()))]
			}
			if !u.pick(n) {
				count[idle]++
			}
		}
		u.rests()
		u.counts(&count)
	}
	for i, n := range count {
		if n < 150 {
			t.Errorf("too little came up: %d of %d (of all: %v)", n, i, count)
		}
	}
}

// P18.1: picked in turn, from the first tick on, all is over within so many rounds, with most calls and clients.
func TestPicksInTurn(t *testing.T) {
	for seed := range int64(40) {
		r := rand.New(rand.NewSource(seed))
		c := drawn(r)
		var lists [][]api.Call
		for range api.MaxClients {
			var l []api.Call
			for range api.MaxCalls {
				l = append(l, drawnCall(r, c, seed%4 == 0))
			}
			lists = append(lists, l)
		}
		set(t, c, lists).rests()
	}
}

// P18.1: every row of picks of a few threads, of calls that meet at one group and at one control.
func TestEveryRow(t *testing.T) {
	a, b := key(2, 0, 0), key(2, 1, 0)
	c := tumbling(2, 2, 1)
	for _, clients := range [][][]api.Call{
		{{put(a, 3, 5), query(a)}, {move(0, 1)}},
		{{put(a, 3, 5), advance(10)}, {put(b, 4, 6), try(a, 5, 7)}},
		{{try(a, 3, 5), try(a, 4, 6)}, {shut(), query(b)}},
		{{advance(10), put(a, 3, 5)}, {move(0, 1), shut()}},
	} {
		for row := range 1 << 14 { // of 7 picks of 4 threads
			u := set(t, c, clients)
			for i := range 7 {
				u.pick(row >> (2 * i) & 3)
			}
			if row%16 == 0 {
				u.rests()
			}
		}
	}
}
