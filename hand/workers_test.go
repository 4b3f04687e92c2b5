package hand

import (
	"math/rand"
	"slices"
	"strconv"
	"testing"

	"easel/api"
	"easel/call"
	"easel/fnv"
	"easel/model"
	"easel/owner"
	"easel/shard"
)

// key is the i-th key of the n-th group of so many.
func key(groups, n, i int) string {
	for k := 0; ; k++ {
		name := "k" + strconv.Itoa(k)
		if fnv.Group(name, groups) != n {
			continue
		}
		if i == 0 {
			return name
		}
		i--
	}
}

// of is a pane of a key's window that has one value.
func of(key string, start, end, v int64) api.Pane {
	return api.Pane{Key: key, Span: api.Span{Start: start, End: end}, Agg: api.Agg{Count: 1, Sum: v, Min: v, Max: v}}
}

// site is a table, and its shards' workers.
type site struct {
	t       *testing.T
	c       api.Config
	table   *owner.Table
	workers []*shard.Worker
	mark    int64
}

func built(t *testing.T, c api.Config) *site {
	t.Helper()
	table, err := owner.New(c.Groups, c.Shards)
	if err != nil {
		t.Fatal(err)
	}
	s := &site{t: t, c: c, table: table, mark: api.Least}
	for n := range c.Shards {
		w, err := shard.New(c, table.Groups(n))
		if err != nil {
			t.Fatal(err)
		}
		s.workers = append(s.workers, w)
	}
	return s
}

// does puts a message into a shard's empty mailbox, and has it done.
func (s *site) does(n int, m shard.Msg) shard.Did {
	s.t.Helper()
	if err := s.workers[n].Box().Put(m); err != nil {
		s.t.Fatalf("Put(%+v): %v", m, err)
	}
	d, is := s.workers[n].Step(s.mark, false)
	if !is || d.Msg != m {
		s.t.Fatalf("Step of shard %d = %+v, %t; want %+v to be done", n, d, is, m)
	}
	return d
}

func (s *site) asks(n int, x api.Call) shard.Did {
	s.t.Helper()
	return s.does(n, shard.Msg{Kind: shard.Ask, Call: x})
}

// fill puts a record of each of two keys of each group, by its owner.
func (s *site) fill() {
	s.t.Helper()
	for n := range s.c.Groups {
		own, _ := s.table.Of(n)
		for i := range 2 {
			x := api.Call{Op: api.Ingest, Key: key(s.c.Groups, n, i), Time: int64(10 * n), Value: int64(i)}
			if d := s.asks(own.Shard, x); d.Moved || d.Reply.Code != api.OK {
				s.t.Fatalf("an Ask of %+v told %+v", x, d)
			}
		}
	}
}

// stands holds that each worker has just the groups that the table says, with the panes that fill put.
func (s *site) stands() {
	s.t.Helper()
	for at, w := range s.workers {
		groups := s.table.Groups(at)
		if !slices.Equal(w.Groups(), groups) || w.Len() != 2*len(groups) {
			s.t.Fatalf("shard %d has groups %v, %d panes; its are %v", at, w.Groups(), w.Len(), groups)
		}
		for n := range s.c.Groups {
			for i := range 2 {
				name := key(s.c.Groups, n, i)
				d := s.asks(at, api.Call{Op: api.QueryKey, Key: name})
				want := shard.Did{Msg: d.Msg, Moved: true}
				if slices.Contains(groups, n) {
					want = shard.Did{Reply: api.Reply{Panes: []api.Pane{of(name, int64(10*n), int64(10*n+10), int64(i))}}}
				}
				if d.Moved != want.Moved || !call.Same(d.Reply, want.Reply) || len(d.Out) > 0 {
					s.t.Fatalf("an Ask of shard %d for %q of group %d told %+v", at, name, n, d)
				}
			}
		}
	}
}

// moves does a whole handoff.
func (s *site) moves(n, to int) {
	s.t.Helper()
	before, _ := s.table.Of(n)
	h, err := New(s.table, n, to)
	if err != nil {
		s.t.Fatal(err)
	}
	var kinds, shards []int
	for !h.Over() {
		at, m, is := h.Ask()
		if !is || !h.Sent() {
			s.t.Fatalf("Ask() = %d, %+v, %t, and Sent is false, or it isn't over", at, m, is)
		}
		kinds, shards = append(kinds, m.Kind), append(shards, at)
		if d := s.does(at, m); !h.Did(d) {
			s.t.Fatalf("Did(%+v) = false", d)
		}
	}
	after, _ := s.table.Of(n)
	if after != (owner.Own{Shard: to, Version: before.Version + 1}) {
		s.t.Fatalf("group %d went from %+v to %+v; it was to go to %d", n, before, after, to)
	}
	if !slices.Equal(kinds, []int{shard.Give, shard.Have}) || !slices.Equal(shards, []int{before.Shard, to}) {
		s.t.Fatalf("messages of Kinds %v went to shards %v", kinds, shards)
	}
}

// P15.2: with workers that do the messages: the new owner has the group, with its panes, and the old one hasn't (if it is
// another one), each time.
func TestWorkers(t *testing.T) {
	for shards := 1; shards <= 3; shards++ {
		s := built(t, api.Config{Kind: api.Tumbling, Size: 10, Shards: shards, Groups: 5, Cap: 1})
		s.fill()
		s.stands()
		for round := range 3 {
			for n := range 5 {
				for to := range shards {
					s.moves(n, (to+round)%shards)
					s.stands()
				}
			}
		}
	}
}

// P15.2: where the group is while it moves: with its owner till Give is done, then with nobody, then with the new one,
// ahead of Over.
func TestWhereItIsMeanwhile(t *testing.T) {
	s := built(t, api.Config{Kind: api.Tumbling, Size: 10, Shards: 2, Groups: 4, Cap: 4})
	s.fill()
	holds := func(one, two []int) {
		t.Helper()
		if a, b := s.workers[0].Groups(), s.workers[1].Groups(); !slices.Equal(a, one) || !slices.Equal(b, two) {
			t.Fatalf("the workers have %v and %v; want %v and %v", a, b, one, two)
		}
		if own, _ := s.table.Of(2); own != (owner.Own{Moving: true}) {
			t.Fatalf("Of(2) = %+v; want shard 0, version 0, moving", own)
		}
	}
	h, err := New(s.table, 2, 1)
	if err != nil {
		t.Fatal(err)
	}
	holds([]int{0, 2}, []int{1, 3})
	at, m, _ := h.Ask()
	h.Sent()
	holds([]int{0, 2}, []int{1, 3})
	d := s.does(at, m)
	holds([]int{0}, []int{1, 3})
	h.Did(d)
	at, m, _ = h.Ask()
	h.Sent()
	holds([]int{0}, []int{1, 3})
	d = s.does(at, m)
	holds([]int{0}, []int{1, 2, 3})
	if h.Over() || !h.Did(d) || !h.Over() {
		t.Fatal("it was over ahead of Did, or isn't behind it")
	}
	s.stands()
}

// P15.1: of an owner that doesn't have the group there is no state: nothing is had, and it is published nevertheless.
func TestWithoutAState(t *testing.T) {
	s := built(t, api.Config{Kind: api.Tumbling, Size: 10, Shards: 2, Groups: 2, Cap: 4})
	if d := s.does(0, shard.Msg{Kind: shard.Give}); d.State == nil {
		t.Fatal("the worker doesn't have its group")
	}
	s.moves(0, 1)
	if list := s.workers[1].Groups(); !slices.Equal(list, []int{1}) {
		t.Fatalf("the new owner has groups %v", list)
	}
}

// traffic is a site on which groups move all along, held against a model.
type traffic struct {
	*site
	r     *rand.Rand
	m     *model.Model
	hands []*Hand
	out   []api.Pane
	overs int
}

// step has a worker do its first message; what it did is waited for by one handoff, if it was one's.
func (x *traffic) step(n int) {
	x.t.Helper()
	d, is := x.workers[n].Step(x.mark, false)
	if !is {
		return
	}
	x.out = append(x.out, d.Out...)
	waiting := 0
	for _, h := range x.hands {
		if h.Did(d) {
			waiting++
		}
	}
	if d.Msg.Kind == shard.Mark && waiting > 0 || d.Msg.Kind >= shard.Give && waiting != 1 {
		x.t.Fatalf("%+v was waited for by %d handoffs", d, waiting)
	}
	if slices.ContainsFunc(x.hands, (*Hand).Over) {
		x.overs++
		x.hands = slices.DeleteFunc(x.hands, (*Hand).Over)
	}
}

// empty has a worker do all its messages.
func (x *traffic) empty(n int) {
	x.t.Helper()
	for x.workers[n].Box().Len() > 0 {
		x.step(n)
	}
}

// sends puts what a handoff asks for into its mailbox, if there is room.
func (x *traffic) sends(h *Hand) {
	at, m, is := h.Ask()
	if is && x.workers[at].Box().Put(m) == nil && !h.Sent() {
		x.t.Fatalf("Sent() = false behind %+v", m)
	}
}

// keyed does a call of a group that isn't moving, by its owner, and by the model.
func (x *traffic) keyed() {
	x.t.Helper()
	n := x.r.Intn(x.c.Groups)
	own, _ := x.table.Of(n)
	if own.Moving {
		return
	}
	y := api.Call{
		Op: []int{api.Ingest, api.TryIngest, api.QueryKey}[x.r.Intn(3)], Key: key(x.c.Groups, n, x.r.Intn(2)),
		Time: x.r.Int63n(80), Value: x.r.Int63n(9),
	}
	x.empty(own.Shard)
	d := x.asks(own.Shard, y)
	x.out = append(x.out, d.Out...)
	if want := x.m.Do(y); d.Moved || !call.Same(d.Reply, want) {
		x.t.Fatalf("%+v came to %+v; the model's reply is %+v", y, d, want)
	}
}

// raise raises the watermark, and has all workers settle.
func (x *traffic) raise() {
	x.mark = max(x.mark, 0) + x.r.Int63n(9) + 1
	x.m.Do(api.Call{Op: api.Advance, Time: x.mark})
	for n, w := range x.workers {
		if w.Box().Put(shard.Msg{Kind: shard.Mark}) != nil {
			x.empty(n)
		}
	}
}

// ends has all handoffs end, and all workers settle.
func (x *traffic) ends() {
	x.t.Helper()
	for len(x.hands) > 0 {
		for _, h := range x.hands {
			x.sends(h)
		}
		for n := range x.workers {
			x.step(n)
		}
	}
	for n := range x.workers {
		x.empty(n)
		x.out = append(x.out, x.does(n, shard.Msg{Kind: shard.Mark}).Out...)
		if !slices.Equal(x.workers[n].Groups(), x.table.Groups(n)) {
			x.t.Fatalf("shard %d has groups %v; its are %v", n, x.workers[n].Groups(), x.table.Groups(n))
		}
	}
	for n := range x.c.Groups {
		for i := range 2 {
			name := key(x.c.Groups, n, i)
			other := func(p api.Pane) bool { return p.Key != name }
			got, want := slices.DeleteFunc(slices.Clone(x.out), other), slices.DeleteFunc(x.m.Out(), other)
			if !slices.Equal(got, want) {
				x.t.Fatalf("of %q there went out\n%+v; of the model\n%+v", name, got, want)
			}
		}
	}
}

// P15.2: several handoffs at once, with mailboxes that have little room, and calls of clients among them: nothing is lost,
// and nothing is doubled.
func TestMovingAllAlong(t *testing.T) {
	overs, outs, seed := 0, 0, int64(0)
	defer func() {
		if t.Failed() {
			t.Logf("seed %d", seed)
		}
	}()
	for ; seed < 1000; seed++ {
		r := rand.New(rand.NewSource(seed))
		c := api.Config{Kind: r.Intn(3), Size: 10, Slide: 5, Gap: 6, Late: r.Int63n(4)}
		c.Shards, c.Groups, c.Cap = 1+r.Intn(4), 1+r.Intn(6), 1+r.Intn(3)
		m, err := model.New(c)
		if err != nil {
			t.Fatal(err)
		}
		x := &traffic{site: built(t, c), r: r, m: m}
		for range 150 {
			switch r.Intn(10) {
			case 0:
				if h, err := New(x.table, r.Intn(c.Groups), r.Intn(c.Shards)); err == nil {
					x.hands = append(x.hands, h)
				}
			case 1, 2:
				for _, h := range x.hands {
					x.sends(h)
				}
			case 3, 4, 5:
				x.step(r.Intn(c.Shards))
			case 6:
				if r.Intn(4) == 0 {
					x.raise()
				}
			default:
				x.keyed()
			}
		}
		x.ends()
		overs, outs = overs+x.overs, outs+len(x.out)
	}
	if overs < 5000 || outs < 1000 {
		t.Errorf("%d handoffs were over, %d panes went out", overs, outs)
	}
}
