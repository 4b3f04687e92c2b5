package client

import (
	"math"
	"math/rand"
	"slices"
	"testing"

	"easel/api"
	"easel/call"
	"easel/model"
	"easel/shard"
)

// drawn is a config of small numbers.
func drawn(r *rand.Rand) api.Config {
	c := api.Config{Kind: r.Intn(3), Size: 1 + r.Int63n(16), Gap: 1 + r.Int63n(8), Late: r.Int63n(3) * r.Int63n(6)}
	c.Slide = 1 + r.Int63n(c.Size)
	c.Shards, c.Groups, c.Cap = 1+r.Intn(4), 1+r.Intn(5), 1+r.Intn(3)
	if r.Intn(8) == 0 {
		c.Shards, c.Groups, c.Cap = 1+r.Intn(api.MaxShards), 1+r.Intn(api.MaxGroups), 1+r.Intn(api.MaxCap)
	}
	return c
}

// drawnCall is a call, mostly one that may be, and a keyed one.
func drawnCall(r *rand.Rand, c api.Config, ends bool) api.Call {
	x := api.Call{
		Op: []int{1, 1, 1, 1, 2, 2, 2, 4, 5, 5, 3, 3, 6, 6}[r.Intn(14)], Key: key(c.Groups, r.Intn(c.Groups), r.Intn(2)),
		Time: r.Int63n(60), Value: r.Int63n(100) - 50, Group: r.Intn(c.Groups), Shard: r.Intn(c.Shards),
	}
	x.End = x.Time + r.Int63n(20)
	if x.Op == api.QueryPane {
		x.Time -= x.Time % c.Size
		x.End = x.Time + c.Size
	}
	if ends && r.Intn(12) == 0 {
		x.Op = api.Close
	}
	switch r.Intn(40) {
	case 0:
		x.Op = edges()[r.Intn(len(edges()))]
	case 1:
		x.Key = ""
	case 2:
		x.Group = edges()[r.Intn(len(edges()))]
	case 3:
		x.Shard = edges()[r.Intn(len(edges()))]
	case 4:
		x.Time = []int64{math.MinInt64, math.MaxInt64, -1}[r.Intn(3)]
	}
	return x
}

func drawnCalls(r *rand.Rand, c api.Config, most int) []api.Call {
	ends := r.Intn(3) == 0
	var list []api.Call
	for range r.Intn(most + 1) {
		list = append(list, drawnCall(r, c, ends))
	}
	return list
}

// numbers are so many numbers of clients, each another one.
func numbers(r *rand.Rand, count int) []int {
	list := edges()
	r.Shuffle(len(list), func(i, k int) { list[i], list[k] = list[k], list[i] })
	return list[:count]
}

// pair is a client, and the same by the words.
type pair struct {
	*Client
	*actor
	next func() (Told, bool)
}

// run is a site with its clients, and all of it by the words, at the same step.
type run struct {
	*site
	r     *rand.Rand
	p     *plain
	pairs []*pair
	done  []event // calls that had their point, in the order of these
	out   []api.Pane
	moved int    // how seldom an Ask is told to be Moved, whoever has its group; 0: only where it is
	count [8]int // of what came up
}

// event is a call, and what it came to.
type event struct {
	x api.Call
	r api.Reply
}

// What is counted.
const (
	overs = iota
	fulls
	moves
	closes
	stales
	idle
	bads
	lates
)

// set makes a run of so many clients at most, each of so many calls at most.
func set(t *testing.T, r *rand.Rand, clients, calls int) (*run, func()) {
	t.Helper()
	c := drawn(r)
	u := &run{site: built(t, c), r: r, p: laid(c)}
	var stops []func()
	for _, number := range numbers(r, 1+r.Intn(clients)) {
		list := drawnCalls(r, c, calls)
		a := &actor{p: u.p, number: number, calls: list}
		next, stop := a.steps()
		stops = append(stops, stop)
		u.pairs = append(u.pairs, &pair{New(number, list), a, next})
	}
	return u, func() {
		for _, stop := range stops {
			stop()
		}
	}
}

// step is a client's, here and there.
func (u *run) step(x *pair) {
	u.t.Helper()
	y, _ := x.Next()
	told := x.Step(u.Env)
	want, _ := x.next()
	if !sameTold(told, want) {
		u.t.Fatalf("client %d: a step of %+v told %+v; want %+v", x.actor.number, y, told, want)
	}
	if told.Point {
		u.done = append(u.done, event{y, told.Reply})
	}
	switch {
	case !told.Moved:
		u.count[idle]++
	case told.Point && told.Reply.Code == api.Full:
		u.count[fulls]++
	case told.Point && told.Reply.Code == api.Closed:
		u.count[closes]++
	case told.Point && told.Reply.Code == api.Stale:
		u.count[stales]++
	case told.Point && told.Reply.Code == api.Bad:
		u.count[bads]++
	}
	u.holds()
}

// first has a worker's first message done, here and there. That an Ask is Moved doesn't come up by itself: those that are
// put ahead of a group's freezing stand ahead of its Give. So some of them are taken out undone, and told to be Moved.
func (u *run) first(n int) (shard.Did, shard.Did, bool) {
	u.t.Helper()
	if l := u.p.mail[n]; u.moved > 0 && len(l) > 0 && l[0].Kind == shard.Ask && u.r.Intn(u.moved) == 0 {
		u.p.mail[n] = slices.Clone(l[1:])
		m, _ := u.Boxes[n].Take()
		return shard.Did{Msg: m, Moved: true}, shard.Did{Msg: l[0], Moved: true}, true
	}
	d, is := u.workers[n].Step(u.Ctl.Mark(), u.Ctl.Closed())
	want, was := u.p.work(n)
	if is != was {
		u.t.Fatalf("shard %d did something: %t; want %t", n, is, was)
	}
	return d, want, is
}

// work is a worker's, here and there; what it did is told to all clients, in any order.
func (u *run) work(n int) {
	u.t.Helper()
	d, want, is := u.first(n)
	if !is {
		return
	}
	u.same(d, want)
	u.out = append(u.out, d.Out...)
	awaited := 0
	for _, i := range u.r.Perm(len(u.pairs)) {
		x := u.pairs[i]
		is, was := x.Did(d), x.did(want)
		if is != was {
			u.t.Fatalf("client %d: Did(%+v) = %t; want %t", x.actor.number, d, is, was)
		}
		if is {
			awaited++
		}
	}
	if awaited != 1 {
		u.t.Fatalf("%+v was awaited by %d clients", d, awaited)
	}
	switch {
	case d.Moved:
		u.count[moves]++
	case d.Msg.Kind == shard.Ask:
		u.done = append(u.done, event{d.Msg.Call, d.Reply})
		if d.Reply.Code == api.Late {
			u.count[lates]++
		}
	}
	u.holds()
}

// same holds that two messages were alike, and came to the same; states are had from elsewhere.
func (u *run) same(d, want shard.Did) {
	u.t.Helper()
	m, n := d.Msg, want.Msg
	state := (m.State != nil) == (n.State != nil) && (d.State != nil) == (want.State != nil)
	m.State, n.State = nil, nil
	if m != n || !state || d.Moved != want.Moved || !call.Same(d.Reply, want.Reply) || !slices.Equal(d.Out, want.Out) {
		u.t.Fatalf("done was %+v; want %+v", d, want)
	}
}

// holds holds that all stands alike, here and there.
func (u *run) holds() {
	u.t.Helper()
	want := standing{mark: u.p.mark, closed: u.p.closed, held: u.p.holder != nil}
	if want.held {
		want.holder = u.p.holder.number
	}
	copy(want.owns[:], u.p.owns)
	copy(want.shut[:], u.p.shut)
	for n, l := range u.p.mail {
		want.mail[n] = len(l)
	}
	if is := u.stands(); is != want {
		u.t.Fatalf("all stands as %+v; want %+v", is, want)
	}
	for _, x := range u.pairs {
		n := len(x.actor.replies)
		next := append(slices.Clone(x.actor.calls), api.Call{})[n]
		if y, is := x.Next(); y != next || is != (n < len(x.actor.calls)) || x.Over() == is {
			u.t.Fatalf("client %d: Next() = %+v, %t, Over() = %t; want %+v", x.actor.number, y, is, x.Over(), next)
		}
		if list := x.Replies(); !slices.EqualFunc(list, x.actor.replies, call.Same) {
			u.t.Fatalf("client %d: Replies() = %+v; want %+v", x.actor.number, list, x.actor.replies)
		}
	}
}

// isOver tells whether all clients are.
func (u *run) isOver() bool {
	return !slices.ContainsFunc(u.pairs, func(x *pair) bool { return !x.Over() })
}

// rests does rounds of all, till it is over, and holds that this is so within the number of chapter 21.
func (u *run) rests() {
	u.t.Helper()
	u.moved = 0
	calls := 0
	for _, x := range u.pairs {
		calls += len(x.actor.calls)
	}
	for range (calls + 1) * (4*(u.Config.Shards+calls) + 12) {
		if u.isOver() {
			u.count[overs]++
			return
		}
		for n := range u.workers {
			u.work(n)
		}
		for _, x := range u.pairs {
			u.step(x)
		}
	}
	u.t.Fatalf("it isn't over behind so many rounds")
}

// asModel holds that calls, by the order of their points, came to what the model tells, and of each key what went out.
func (u *run) asModel() {
	u.t.Helper()
	m, err := model.New(u.Config)
	if err != nil {
		u.t.Fatal(err)
	}
	for i, e := range u.done {
		if e.r.Code == api.Full && e.x.Op == api.TryIngest {
			continue
		}
		if want := m.Do(e.x); !call.Same(e.r, want) {
			u.t.Fatalf("the %d-th call, %+v, came to %+v; the model's reply is %+v", i, e.x, e.r, want)
		}
	}
	for n := range u.Config.Groups {
		for i := range 2 {
			name := key(u.Config.Groups, n, i)
			other := func(p api.Pane) bool { return p.Key != name }
			got, want := slices.DeleteFunc(slices.Clone(u.out), other), slices.DeleteFunc(m.Out(), other)
			if !slices.Equal(got, want) {
				u.t.Fatalf("of %q there went out\n%+v; of the model\n%+v", name, got, want)
			}
		}
	}
}

// P17.1, P17.3: steps of several clients, and of workers, in any order, come to what the chapter's words say, at each step;
// from wherever they stand all is over within so many rounds, and calls came to what the model tells.
func TestRandomSteps(t *testing.T) {
	var count [8]int
	seed := int64(0)
	defer func() {
		if t.Failed() {
			t.Logf("seed %d", seed)
		}
	}()
	for ; seed < 2500; seed++ {
		r := rand.New(rand.NewSource(seed))
		u, stop := set(t, r, api.MaxClients, 12)
		defer stop()
		u.moved = r.Intn(4)
		lazy := r.Intn(5) // how seldom a worker is picked: so that mailboxes are full
		for range r.Intn(300) {
			if n := r.Intn(len(u.workers) + (1+lazy)*len(u.pairs)); n < len(u.workers) {
				u.work(n)
			} else {
				u.step(u.pairs[n%len(u.pairs)])
			}
		}
		u.rests()
		u.asModel()
		for i, n := range u.count {
			count[i] += n
		}
	}
	for i, n := range count {
		if n < 500 {
			t.Errorf("too little came up: %d of %d (of all: %v)", n, i, count)
		}
	}
}

// P17.1: calls that go one behind the other come to what the model tells, whichever client's they are, and in whatever order
// all have their steps.
func TestOneBehindTheOther(t *testing.T) {
	seed, calls := int64(0), 0
	defer func() {
		if t.Failed() {
			t.Logf("seed %d", seed)
		}
	}()
	for ; seed < 800; seed++ {
		r := rand.New(rand.NewSource(seed))
		c := drawn(r)
		s := built(t, c)
		m, err := model.New(c)
		if err != nil {
			t.Fatal(err)
		}
		var list []*Client
		for _, number := range numbers(r, 1+r.Intn(4)) {
			list = append(list, New(number, drawnCalls(r, c, 15)))
		}
		for {
			list = slices.DeleteFunc(list, (*Client).Over)
			if len(list) == 0 {
				break
			}
			x := list[r.Intn(len(list))]
			y, _ := x.Next()
			if r, want := alone(s, r, x), m.Do(y); !call.Same(r, want) {
				t.Fatalf("%+v came to %+v; the model's reply is %+v", y, r, want)
			}
			calls++
		}
	}
	if calls < 5000 {
		t.Errorf("there were %d calls", calls)
	}
}

// alone does a client's next call, with steps of it and of workers, and tells what it came to.
func alone(s *site, r *rand.Rand, x *Client) api.Reply {
	s.t.Helper()
	for range 2000 {
		n := r.Intn(len(s.workers) + 1)
		if n == len(s.workers) {
			if told := x.Step(s.Env); told.Done {
				return told.Reply
			}
			continue
		}
		if d, is := s.workers[n].Step(s.Ctl.Mark(), s.Ctl.Closed()); is && !x.Did(d) {
			s.t.Fatalf("%+v isn't awaited", d)
		}
	}
	s.t.Fatal("a call isn't done behind so many steps")
	return api.Reply{}
}
