package model

import (
	"bytes"
	"cmp"
	"math/rand"
	"slices"
	"testing"

	"easel/api"
	"easel/assign"
	"easel/call"
	"easel/span"
)

// placed is a value in one of its windows: of Session in the one from its time on.
type placed struct {
	key string
	s   api.Span
	v   int64
}

// plain is the chapter's words once more: values that are put together only where they are asked for.
type plain struct {
	c      api.Config
	live   []placed
	out    []api.Pane
	mark   int64
	closed bool
}

// panes are a key's, by rising windows.
func (p *plain) panes(key string) []api.Pane {
	list := slices.DeleteFunc(slices.Clone(p.live), func(x placed) bool { return x.key != key })
	slices.SortStableFunc(list, func(a, b placed) int { return cmp.Compare(a.s.Start, b.s.Start) })
	var told []api.Pane
	var values []int64
	for i, x := range list {
		joins := i > 0 && told[len(told)-1].Span == x.s
		if i > 0 && p.c.Kind == api.Session {
			joins = x.s.Start < told[len(told)-1].Span.End
		}
		if !joins {
			told, values = append(told, api.Pane{Span: x.s}), nil
		}
		values = append(values, x.v)
		told[len(told)-1] = of(key, told[len(told)-1].Span.Start, x.s.End, values...)
	}
	return told
}

func (p *plain) settle() {
	var over []api.Pane
	for _, key := range names() {
		for _, x := range p.panes(key) {
			if span.Over(x.Span, p.c.Late, p.mark) {
				over = append(over, x)
			}
		}
	}
	slices.SortFunc(over, func(a, b api.Pane) int {
		return cmp.Or(cmp.Compare(a.Span.End, b.Span.End), cmp.Compare(a.Span.Start, b.Span.Start), bytes.Compare([]byte(a.Key), []byte(b.Key)))
	})
	for _, o := range over {
		p.live = slices.DeleteFunc(p.live, func(x placed) bool {
			return x.key == o.Key && o.Span.Start <= x.s.Start && x.s.End <= o.Span.End
		})
	}
	p.out = append(p.out, over...)
}

func (p *plain) take(x api.Call) int {
	list, err := assign.Of(p.c, x.Time)
	if err != nil {
		return api.BadTime
	}
	code := api.Late
	for _, s := range list {
		if !span.Over(s, p.c.Late, p.mark) {
			p.live = append(p.live, placed{x.Key, s, x.Value})
			code = api.OK
		}
	}
	return code
}

func (p *plain) do(x api.Call) api.Reply {
	switch {
	case !call.May(p.c, x):
		return told(api.Bad)
	case p.closed:
		return told(api.Closed)
	case x.Op == 3 && x.Time <= p.mark:
		return told(api.Stale)
	}
	switch x.Op {
	case 1, 2:
		return told(p.take(x))
	case 3:
		p.mark = x.Time
		p.settle()
	case 4:
		list := p.panes(x.Key)
		return told(api.OK, slices.DeleteFunc(list, func(q api.Pane) bool { return q.Span != api.Span{Start: x.Time, End: x.End} })...)
	case 5:
		return told(api.OK, p.panes(x.Key)...)
	case 7:
		p.closed = true
	}
	return told(api.OK)
}

// drawn is a config of small numbers.
func drawn(r *rand.Rand) api.Config {
	late := r.Int63n(3) * r.Int63n(8)
	c := session(1+r.Int63n(12), late)
	switch r.Intn(3) {
	case 0:
		c = tumbling(1+r.Int63n(12), late)
	case 1:
		size := 1 + r.Int63n(16)
		c = sliding(size, 1+r.Int63n(size), late)
	}
	c.Shards, c.Groups, c.Cap = 1+r.Intn(8), 1+r.Intn(16), 1+r.Intn(16)
	return c
}

// near is a time near the least int64 (-1), 0, or the greatest one (1), among at most width.
func near(r *rand.Rand, where int, width int64) int64 {
	n := r.Int63n(width)
	switch where {
	case -1:
		return least + n
	case 1:
		return most - n
	}
	return n - width/2
}

// drawnCall is a call of any Op, seldom a Close, that mostly may be.
func drawnCall(r *rand.Rand, c api.Config, where int, mark int64) api.Call {
	keys := names()
	x := api.Call{
		Op: []int{1, 1, 1, 2, 2, 3, 4, 4, 5, 6}[r.Intn(10)], Key: keys[r.Intn(4)], Time: near(r, where, 60), Value: int64(r.Uint64()),
		Group: r.Intn(c.Groups), Shard: r.Intn(c.Shards),
	}
	x.End = x.Time + 1 + r.Int63n(20)
	if list, err := assign.Of(c, x.Time); err == nil && x.Op == api.QueryPane && r.Intn(3) > 0 {
		s := list[r.Intn(len(list))]
		x.Time, x.End = s.Start, s.End
	}
	if x.Op == api.Advance && r.Intn(2) == 0 {
		x.Time = mark + r.Int63n(5) - 1
	}
	switch r.Intn(50) {
	case 0:
		x.Op = ops()[r.Intn(len(ops()))]
	case 1:
		x.Key = keys[r.Intn(len(keys))]
	case 2:
		x.Key = wrongNames()[r.Intn(len(wrongNames()))]
	case 3:
		x.End = x.Time - r.Int63n(2)
	case 4:
		x.Group, x.Shard = r.Intn(20)-2, r.Intn(12)-2
	case 5:
		x.Time = near(r, r.Intn(3)-1, 4)
	}
	return x
}

// P13.1 to P13.3, P1: whatever calls come, of each kind of windows, each comes to what the words say; all that is told is
// written over.
func TestRandomCalls(t *testing.T) {
	var codes [3][7]int
	for seed := range int64(900) {
		r := rand.New(rand.NewSource(seed))
		c := drawn(r)
		m, want, where := made(t, c), &plain{c: c, mark: least}, r.Intn(3)-1
		for i := range 80 {
			x := drawnCall(r, c, where, m.Mark())
			if i == 70 && r.Intn(2) == 0 {
				x.Op = api.Close
			}
			reply := want.do(x)
			codes[c.Kind][reply.Code]++
			does(t, m, x, reply.Code, reply.Panes...)
			if m.Mark() != want.mark || !slices.Equal(m.Out(), want.out) {
				t.Errorf("Mark() = %d, Out() = %+v; want %d, %+v", m.Mark(), m.Out(), want.mark, want.out)
			}
			for _, key := range names() {
				list := m.Panes(key)
				if w := want.panes(key); !slices.Equal(list, w) {
					t.Errorf("Panes(%q) = %+v; want %+v", key, list, w)
				}
				spoil(list)
			}
			spoil(m.Out())
			if t.Failed() {
				t.Fatalf("seed %d, %+v, behind %d calls, the last of them %+v", seed, c, i+1, x)
			}
		}
	}
	for kind, list := range codes {
		for code, n := range list {
			if full := code == api.Full; full != (n == 0) || !full && n < 100 {
				t.Errorf("of Kind %d, %d calls came to %d", kind, n, code)
			}
		}
	}
}

// idle draws a call that changes nothing: a Rebalance, or one that isn't OK.
func idle(r *rand.Rand, m *Model, c api.Config, closed bool) api.Call {
	keys := names()
	key := keys[r.Intn(4)]
	if closed {
		return rightCalls()[r.Intn(len(rightCalls()))]
	}
	switch r.Intn(6) {
	case 0:
		return wrongCalls()[r.Intn(len(wrongCalls()))]
	case 1:
		return puts()[r.Intn(2)](wrongNames()[r.Intn(len(wrongNames()))], 30, 1)
	case 2:
		// What wraps round below the least is above the watermark.
		return advance(min(m.Mark(), m.Mark()-r.Int63n(3)))
	case 3:
		return puts()[r.Intn(2)](key, most, 1) // which no window has
	case 4:
		// All windows of a time so far below the watermark are over.
		if m.Mark() >= least+40 {
			return puts()[r.Intn(2)](key, m.Mark()-40, 1)
		}
	}
	return rebalance(r.Intn(c.Groups), r.Intn(c.Shards))
}

// P13.3: two models are done the same calls, one of them with idle ones between: they tell the same all along.
func TestWhatChangesNothing(t *testing.T) {
	var codes [7]int
	for seed := range int64(300) {
		r := rand.New(rand.NewSource(seed))
		c := drawn(r)
		c.Groups, c.Shards = 4, 2
		one, two, closed := made(t, c), made(t, c), false
		for i := range 50 {
			x := drawnCall(r, c, 0, one.Mark())
			if i == 45 {
				x = closing()
			}
			a, b := one.Do(x), two.Do(x)
			closed = closed || i == 45
			if !call.Same(a, b) {
				t.Errorf("Do(%+v) = %+v, and %+v", x, a, b)
			}
			for range r.Intn(4) {
				y := idle(r, two, c, closed)
				reply := two.Do(y)
				codes[reply.Code]++
				if len(reply.Panes) > 0 || reply.Code == api.OK && y.Op != api.Rebalance {
					t.Errorf("Do(%+v) = %+v", y, reply)
				}
			}
			if a, b := looks(one), looks(two); a != b {
				t.Errorf("one is\n%s\nthe other\n%s", a, b)
			}
			if t.Failed() {
				t.Fatalf("seed %d, %+v, behind %d calls, the last of them %+v", seed, c, i+1, x)
			}
		}
	}
	for code, n := range codes {
		if full := code == api.Full; full != (n == 0) || !full && n < 100 {
			t.Errorf("%d idle calls came to %d", n, code)
		}
	}
}
