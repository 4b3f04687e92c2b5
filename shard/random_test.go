package shard

import (
	"bytes"
	"cmp"
	"math/rand"
	"slices"
	"testing"

	"easel/api"
	"easel/assign"
	"easel/call"
	"easel/fnv"
	"easel/group"
	"easel/model"
	"easel/span"
)

// placed is a value in one of its windows: of Session in the one from its time on.
type placed struct {
	key string
	s   api.Span
	v   int64
}

// plain is a group by the chapters' words once more: values that are put together only where they are asked for.
type plain struct {
	c    api.Config
	live []placed
}

// keys are those with values.
func (p *plain) keys() []string {
	var list []string
	for _, x := range p.live {
		list = append(list, x.key)
	}
	slices.Sort(list)
	return slices.Compact(list)
}

// panes are a key's, by rising windows.
func (p *plain) panes(key string) []api.Pane {
	list := slices.DeleteFunc(slices.Clone(p.live), func(x placed) bool { return x.key != key })
	slices.SortStableFunc(list, func(a, b placed) int { return cmp.Compare(a.s.Start, b.s.Start) })
	var told []api.Pane
	var values []int64
	for i, x := range list {
		joins := i > 0 && told[len(told)-1].Span == x.s
		if i > 0 && p.c.Kind == api.Session {
			joins = x.s.Start < told[len(told)-1].Span.End
		}
		if !joins {
			told, values = append(told, api.Pane{Span: x.s}), nil
		}
		values = append(values, x.v)
		told[len(told)-1] = of(key, told[len(told)-1].Span.Start, x.s.End, values...)
	}
	return told
}

func (p *plain) len() int {
	n := 0
	for _, name := range p.keys() {
		n += len(p.panes(name))
	}
	return n
}

func (p *plain) settle(mark int64) []api.Pane {
	var over []api.Pane
	for _, name := range p.keys() {
		for _, x := range p.panes(name) {
			if span.Over(x.Span, p.c.Late, mark) {
				over = append(over, x)
			}
		}
	}
	slices.SortFunc(over, func(a, b api.Pane) int {
		return cmp.Or(cmp.Compare(a.Span.End, b.Span.End), cmp.Compare(a.Span.Start, b.Span.Start), bytes.Compare([]byte(a.Key), []byte(b.Key)))
	})
	for _, o := range over {
		p.live = slices.DeleteFunc(p.live, func(x placed) bool {
			return x.key == o.Key && o.Span.Start <= x.s.Start && x.s.End <= o.Span.End
		})
	}
	return over
}

func (p *plain) take(x api.Call, mark int64) int {
	list, err := assign.Of(p.c, x.Time)
	if err != nil {
		return api.BadTime
	}
	code := api.Late
	for _, s := range list {
		if !span.Over(s, p.c.Late, mark) {
			p.live = append(p.live, placed{x.Key, s, x.Value})
			code = api.OK
		}
	}
	return code
}

// plainWorker is a worker by the chapter's words: its groups stand in a list, at their numbers.
type plainWorker struct {
	c      api.Config
	groups []*plain
}

func (w *plainWorker) ask(x api.Call, mark int64, closed bool) Did {
	if !call.May(w.c, x) || !call.Keyed(x) {
		return Did{}
	}
	g := w.groups[fnv.Group(x.Key, w.c.Groups)]
	if g == nil {
		return Did{Moved: true}
	}
	if closed {
		return Did{Reply: told(api.Closed)}
	}
	out := g.settle(mark)
	switch x.Op {
	case api.QueryPane:
		return Did{Reply: told(api.OK, ofWindow(g.panes(x.Key), x.Time, x.End)...), Out: out}
	case api.QueryKey:
		return Did{Reply: told(api.OK, g.panes(x.Key)...), Out: out}
	}
	return Did{Reply: told(g.take(x, mark)), Out: out}
}

func (w *plainWorker) settle(mark int64) []api.Pane {
	var out []api.Pane
	for _, g := range w.groups {
		if g != nil {
			out = append(out, g.settle(mark)...)
		}
	}
	return out
}

// numbers are those of its groups; len is how many panes they have.
func (w *plainWorker) numbers() []int {
	return slices.DeleteFunc(upTo(len(w.groups)), func(n int) bool { return w.groups[n] == nil })
}

func (w *plainWorker) len() int {
	n := 0
	for _, i := range w.numbers() {
		n += w.groups[i].len()
	}
	return n
}

// drawn is a config of small numbers.
func drawn(r *rand.Rand) api.Config {
	late := r.Int63n(3) * r.Int63n(8)
	c := session(1+r.Int63n(12), late)
	switch r.Intn(3) {
	case 0:
		c = tumbling(1+r.Int63n(12), late)
	case 1:
		size := 1 + r.Int63n(16)
		c = sliding(size, 1+r.Int63n(size), late)
	}
	c.Shards, c.Groups, c.Cap = 1+r.Intn(8), 1+r.Intn(6), 1+r.Intn(16)
	return c
}

// near is a time near the least int64 (-1), 0, or the greatest one (1), among at most width.
func near(r *rand.Rand, where int, width int64) int64 {
	n := r.Int63n(width)
	switch where {
	case -1:
		return least + n
	case 1:
		return most - n
	}
	return n - width/2
}

// above is a time above another one, by at most n, or the greatest.
func above(r *rand.Rand, t, n int64) int64 {
	if t >= most-n {
		return most
	}
	return t + 1 + r.Int63n(n)
}

// drawnKeyed is a keyed call that may be.
func drawnKeyed(r *rand.Rand, c api.Config, where int) api.Call {
	list := names(c.Groups)
	x := api.Call{
		Op: []int{1, 1, 1, 2, 2, 4, 4, 5}[r.Intn(8)], Key: list[r.Intn(len(list))], Time: near(r, where, 60), Value: int64(r.Uint64()),
		Group: r.Intn(c.Groups), Shard: r.Intn(c.Shards),
	}
	if x.Op == api.QueryPane && x.Time == most {
		x.Time--
	}
	x.End = above(r, x.Time, 20)
	if windows, err := assign.Of(c, x.Time); err == nil && x.Op == api.QueryPane && r.Intn(4) > 0 {
		s := windows[r.Intn(len(windows))]
		x.Time, x.End = s.Start, s.End
	}
	return x
}

// raised is a watermark above another one, if there is such a one, mostly near to where all is.
func raised(r *rand.Rand, mark int64, where int) int64 {
	if mark == least && where >= 0 {
		mark = near(r, where, 70)
	}
	return above(r, mark, 8)
}

// beginning holds that of each key what went out of workers is the beginning of what went out of a model, or, behind a
// Mark, all of it.
func beginning(t *testing.T, c api.Config, out, whole []api.Pane, all bool) {
	t.Helper()
	for _, name := range names(c.Groups) {
		a, b := ofKey(out, name), ofKey(whole, name)
		if len(a) > len(b) || !slices.Equal(a, b[:len(a)]) || all && len(a) < len(b) {
			t.Errorf("of %q there went out\n%+v; of the model\n%+v", name, a, b)
		}
	}
}

// P14.2: one worker with all groups comes to what the model comes to, the watermark rising between the calls.
func TestOneWorkerAndTheModel(t *testing.T) {
	var codes [3][7]int
	outs := 0
	for seed := range int64(600) {
		r := rand.New(rand.NewSource(seed))
		c := drawn(r)
		m, err := model.New(c)
		if err != nil {
			t.Fatal(err)
		}
		w, where := made(t, c, upTo(c.Groups)...), r.Intn(3)-1
		var out []api.Pane
		for i := range 80 {
			settled := false
			switch closed := i > 70 && seed%3 == 0; {
			case i == 70 && seed%3 == 0:
				m.Do(api.Call{Op: api.Close})
			case r.Intn(8) == 0:
				m.Do(api.Call{Op: api.Advance, Time: raised(r, m.Mark(), where)})
			case r.Intn(8) == 0:
				sent(t, w, marking())
				d, _ := w.Step(m.Mark(), closed)
				out, settled = append(out, d.Out...), true
			default:
				x := drawnKeyed(r, c, where)
				reply := m.Do(x)
				codes[c.Kind][reply.Code]++
				sent(t, w, ask(x))
				d, is := w.Step(m.Mark(), closed)
				if !is || d.Moved || !call.Same(d.Reply, reply) || d.State != nil {
					t.Errorf("an Ask of %+v came to %+v; the model's reply is %+v", x, d, reply)
				}
				out = append(out, d.Out...)
			}
			beginning(t, c, out, m.Out(), settled)
			if t.Failed() {
				t.Fatalf("seed %d, %+v, behind %d calls", seed, c, i+1)
			}
		}
		outs += len(out)
	}
	for kind, list := range codes {
		for _, code := range []int{api.OK, api.Late, api.BadTime, api.Closed} {
			if list[code] < 100 {
				t.Errorf("of Kind %d, %d calls came to %d", kind, list[code], code)
			}
		}
	}
	if outs < 3000 {
		t.Errorf("%d panes alone went out", outs)
	}
}

// P14.2: a group that is given, and had, by another worker, is as it was: workers among whom groups move all along come
// to what the model does, and who doesn't have a group tells Moved.
func TestWorkersAndTheModel(t *testing.T) {
	moves, outs := 0, 0
	for seed := range int64(500) {
		r := rand.New(rand.NewSource(seed))
		c := drawn(r)
		m, err := model.New(c)
		if err != nil {
			t.Fatal(err)
		}
		where, owner := r.Intn(3)-1, make([]int, c.Groups)
		lists := make([][]int, 3)
		for n := range owner {
			owner[n] = r.Intn(3)
			lists[owner[n]] = append(lists[owner[n]], n)
		}
		workers := []*Worker{made(t, c, lists[0]...), made(t, c, lists[1]...), made(t, c, lists[2]...)}
		var out []api.Pane
		for i := range 80 {
			n, to := r.Intn(c.Groups), r.Intn(3)
			settled := false
			switch r.Intn(8) {
			case 0:
				m.Do(api.Call{Op: api.Advance, Time: raised(r, m.Mark(), where)})
			case 1:
				for _, w := range workers {
					sent(t, w, marking())
					d, _ := w.Step(m.Mark(), false)
					out, settled = append(out, d.Out...), true
				}
			case 2, 3:
				g := gives(t, workers[owner[n]], n, m.Mark(), false)
				does(t, workers[to], have(n, g), m.Mark(), false, Did{})
				owner[n] = to
				moves++
			default:
				x := drawnKeyed(r, c, where)
				g := fnv.Group(x.Key, c.Groups)
				for k, w := range workers {
					if k != owner[g] {
						does(t, w, ask(x), m.Mark(), r.Intn(2) == 0, Did{Moved: true})
					}
				}
				reply := m.Do(x)
				sent(t, workers[owner[g]], ask(x))
				d, is := workers[owner[g]].Step(m.Mark(), false)
				if !is || d.Moved || !call.Same(d.Reply, reply) {
					t.Errorf("an Ask of %+v came to %+v; the model's reply is %+v", x, d, reply)
				}
				out = append(out, d.Out...)
			}
			beginning(t, c, out, m.Out(), settled)
			if t.Failed() {
				t.Fatalf("seed %d, %+v, behind %d calls", seed, c, i+1)
			}
		}
		outs += len(out)
	}
	if moves < 3000 || outs < 3000 {
		t.Errorf("%d groups moved, %d panes went out", moves, outs)
	}
}

// P14.2: of two workers that are asked the same, one gives each group away and has it back at once, time and again: they
// tell the same.
func TestGivenAndHadBack(t *testing.T) {
	for seed := range int64(200) {
		r := rand.New(rand.NewSource(seed))
		c := drawn(r)
		one, two, where, mark := made(t, c, upTo(c.Groups)...), made(t, c, upTo(c.Groups)...), r.Intn(3)-1, int64(least)
		for i := range 60 {
			m := ask(drawnKeyed(r, c, where))
			switch r.Intn(8) {
			case 0:
				m = marking()
			case 1:
				mark = raised(r, mark, where)
			}
			n := r.Intn(c.Groups)
			does(t, two, have(n, gives(t, two, n, mark, false)), mark, false, Did{})
			sent(t, one, m)
			d, _ := one.Step(mark, false)
			does(t, two, m, mark, false, d)
			if one.Len() != two.Len() || !slices.Equal(one.Groups(), two.Groups()) {
				t.Errorf("one has %d panes, of groups %v; the other %d, of %v", one.Len(), one.Groups(), two.Len(), two.Groups())
			}
			if t.Failed() {
				t.Fatalf("seed %d, %+v, behind %d messages", seed, c, i+1)
			}
		}
	}
}

// given is a state that no worker has, and what it is by the words.
type given struct {
	real *group.Group
	want *plain
}

// waiting is a message in a mailbox, and the state in it, by the words.
type waiting struct {
	m     Msg
	state *plain
}

// twin is a worker, and one by the words, that are done the same.
type twin struct {
	t     *testing.T
	r     *rand.Rand
	c     api.Config
	where int
	w     *Worker
	want  *plainWorker
	queue []waiting
	away  []given // states that were given away
	kinds [5]int  // how many messages of each Kind there were
	told  map[string]int
}

// drawnTwin has some groups; the list that they are made of has some twice, and some that there aren't.
func drawnTwin(t *testing.T, r *rand.Rand) *twin {
	t.Helper()
	c := drawn(r)
	want := &plainWorker{c, make([]*plain, c.Groups)}
	var list []int
	for range r.Intn(2 * c.Groups) {
		n := r.Intn(c.Groups+2) - 1
		list = append(list, n)
		if n >= 0 && n < c.Groups {
			want.groups[n] = &plain{c: c}
		}
	}
	return &twin{t: t, r: r, c: c, where: r.Intn(3) - 1, w: made(t, c, list...), want: want, told: map[string]int{}}
}

// state is none, a new one, or one of those that were given away.
func (x *twin) state() given {
	switch k := x.r.Intn(6); {
	case k == 0:
		return given{}
	case k == 1 || len(x.away) == 0:
		y := drawnKeyed(x.r, x.c, x.where)
		s := given{state(x.t, x.c, y.Key, y.Time), &plain{c: x.c}}
		y.Value = 1
		s.want.take(y, least)
		return s
	}
	i := x.r.Intn(len(x.away))
	s := x.away[i]
	x.away = slices.Delete(x.away, i, i+1)
	return s
}

// msg is a message of any kind, but a Have with a state.
func (x *twin) msg() Msg {
	r := x.r
	m := Msg{Kind: []int{Ask, Ask, Ask, Ask, Ask, Mark, Give}[r.Intn(7)], From: r.Intn(9), Call: drawnKeyed(r, x.c, x.where), Group: r.Intn(x.c.Groups)}
	switch r.Intn(25) {
	case 0:
		m.Call = wrongCalls()[r.Intn(len(wrongCalls()))]
	case 1:
		m.Call = otherCalls()[r.Intn(len(otherCalls()))]
	case 2:
		m.Kind = r.Intn(12) - 6
	case 3:
		m.Group = []int{-1, x.c.Groups, 99, least, most}[r.Intn(5)]
	}
	return m
}

// fill puts some messages into the mailbox, seldom more than there is room for.
func (x *twin) fill() {
	for x.r.Intn(3) > 0 {
		next, room := waiting{m: x.msg()}, len(x.queue) < x.c.Cap
		if room && x.r.Intn(5) == 0 {
			s := x.state()
			next = waiting{Msg{Kind: Have, From: x.r.Intn(9), Group: x.r.Intn(x.c.Groups), State: s.real}, s.want}
		}
		if (x.w.Box().Put(next.m) == nil) != room {
			x.t.Errorf("Put of %+v, behind %d", next.m, len(x.queue))
		}
		if room {
			x.queue = append(x.queue, next)
		}
	}
}

// comesTo is what a message comes to by the words; a state that is given away is told beside it.
func (w *plainWorker) comesTo(m Msg, state *plain, mark int64, closed bool) (Did, *plain) {
	switch m.Kind {
	case Ask:
		return w.ask(m.Call, mark, closed), nil
	case Mark:
		return Did{Out: w.settle(mark)}, nil
	case Give:
		if m.Group >= 0 && m.Group < len(w.groups) {
			state, w.groups[m.Group] = w.groups[m.Group], nil
			return Did{}, state
		}
	case Have:
		if m.State != nil {
			w.groups[m.Group] = state
		}
	}
	return Did{}, nil
}

// step does a step, and holds what it tells; then it writes over that.
func (x *twin) step(mark int64, closed bool) {
	d, is := x.w.Step(mark, closed)
	if len(x.queue) == 0 {
		if is || !same(d, Did{}) {
			x.t.Errorf("Step = %+v, %t, of an empty mailbox", d, is)
		}
		return
	}
	m := x.queue[0].m
	want, lost := x.want.comesTo(m, x.queue[0].state, mark, closed)
	x.queue = x.queue[1:]
	want.Msg = m
	if lost != nil && d.State != nil {
		want.State = d.State
		x.away = append(x.away, given{d.State, lost})
		x.told["given"]++
	}
	if !is || !same(d, want) || (lost != nil) != (d.State != nil) {
		x.t.Errorf("Step(%d, %t) = %+v, %t; want %+v", mark, closed, d, is, want)
	}
	if m.Kind >= Ask && m.Kind <= Have {
		x.kinds[m.Kind]++
	}
	if d.Moved {
		x.told["moved"]++
	}
	x.told["out"] += len(d.Out)
	spoil(d.Out)
	spoil(d.Reply.Panes)
}

// stands holds what the worker has, and the states that were given away.
func (x *twin) stands() {
	counts(x.t, x.w, x.want.numbers(), x.want.len())
	if x.w.Box().Len() != len(x.queue) {
		x.t.Errorf("there are %d messages; want %d", x.w.Box().Len(), len(x.queue))
	}
	for _, s := range x.away {
		if s.real.Len() != s.want.len() {
			x.t.Errorf("a state that was given away has %d panes; want %d", s.real.Len(), s.want.len())
		}
	}
}

// P14.1, P1: whatever messages come, of each kind of windows, several at a time, at any watermark, closed or not, each
// comes to what the words say.
func TestRandomMessages(t *testing.T) {
	var kinds [5]int
	all := map[string]int{}
	for seed := range int64(900) {
		r := rand.New(rand.NewSource(seed))
		x, mark := drawnTwin(t, r), int64(least)
		for i := range 100 {
			x.fill()
			switch r.Intn(6) {
			case 0:
				mark = raised(r, mark, x.where)
			case 1:
				mark = near(r, x.where, 70) // which may be below
			}
			x.step(mark, r.Intn(8) == 0)
			x.stands()
			if t.Failed() {
				t.Fatalf("seed %d, %+v, step %d", seed, x.c, i+1)
			}
		}
		for k, n := range x.kinds {
			kinds[k] += n
		}
		for what, n := range x.told {
			all[what] += n
		}
	}
	if slices.Min(kinds[1:]) < 3000 || all["given"] < 2000 || all["moved"] < 2000 || all["out"] < 3000 {
		t.Errorf("messages of Kinds %v; %v", kinds, all)
	}
}
