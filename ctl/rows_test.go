package ctl

import (
	"math"
	"math/rand"
	"testing"
)

// Kinds of steps.
const (
	hold  = "Hold"
	drop  = "Drop"
	raise = "Raise"
	shut  = "Shut"
)

// step is a call.
type step struct {
	kind string
	who  int
	mark int64
}

func (s step) of(c *Ctl) bool {
	switch s.kind {
	case hold:
		return c.Hold(s.who)
	case drop:
		return c.Drop(s.who)
	case raise:
		return c.Raise(s.mark)
	}
	return c.Shut()
}

// words are the steps that told true, one behind the other: what a control is to tell is read off these.
type words struct{ list []step }

// look is what the steps come to: whose the last Hold is, if no Drop came behind; the greatest mark; whether there was a Shut.
func (w *words) look() look {
	l := fresh()
	for _, s := range w.list {
		switch s.kind {
		case hold:
			l.who, l.held = s.who, true
		case drop:
			l.who, l.held = 0, false
		case raise:
			l.mark = max(l.mark, s.mark)
		case shut:
			l.closed = true
		}
	}
	return l
}

// wants is what a step is to tell by the chapter's words.
func (w *words) wants(s step) bool {
	l := w.look()
	switch s.kind {
	case hold:
		return !l.held || l.who == s.who
	case drop:
		return l.held && l.who == s.who
	case raise:
		return s.mark > l.mark
	}
	return !l.closed
}

// does does a step, and holds what it tells, and what the control tells behind it, against the words.
func (w *words) does(t *testing.T, c *Ctl, s step) bool {
	t.Helper()
	was, want := looked(c), w.wants(s)
	if want {
		w.list = append(w.list, s)
	}
	tells(t, c, s, want, w.look())
	keeps(t, s, was, looked(c))
	return want
}

// keeps holds P16.3 of one step: the watermark never falls, what is closed stays so, whoever holds it does till they drop it.
func keeps(t *testing.T, s step, was, is look) {
	t.Helper()
	if is.mark < was.mark {
		t.Fatalf("%+v: the watermark fell from %d to %d", s, was.mark, is.mark)
	}
	if was.closed && !is.closed {
		t.Fatalf("%+v: it was closed, and isn't any more", s)
	}
	theirs := s.kind == drop && s.who == was.who
	if was.held && !theirs && (!is.held || is.who != was.who) {
		t.Fatalf("%+v: it was held by %d, and is told as %+v", s, was.who, is)
	}
}

// steps are those of two who hold it, and of few marks.
func steps() []step {
	return []step{
		{kind: hold, who: 0}, {kind: hold, who: 1}, {kind: drop, who: 0}, {kind: drop, who: 1},
		{kind: raise, mark: math.MinInt64}, {kind: raise, mark: -1}, {kind: raise, mark: 0}, {kind: raise, mark: 1}, {kind: shut},
	}
}

// P16.1 to P16.3: every row of five steps, held against the words.
func TestEveryRow(t *testing.T) {
	const long = 5
	list, path := steps(), make([]int, long)
	for {
		c, w := New(), &words{}
		for _, i := range path {
			w.does(t, c, list[i])
		}
		at := 0
		for ; at < long && path[at] == len(list)-1; at++ {
			path[at] = 0
		}
		if at == long {
			return
		}
		path[at]++
	}
}

// states calls what visits each way a control may stand, made anew.
func states(t *testing.T, visit func(c *Ctl, is look)) {
	t.Helper()
	for _, mark := range []int64{math.MinInt64, -7, 0, 7, math.MaxInt64} {
		for _, who := range []int{math.MinInt, -1, 0, 1, math.MaxInt} {
			for bits := range 4 {
				is := look{mark: mark, held: bits&1 != 0, closed: bits&2 != 0}
				c := New()
				c.Raise(mark)
				if c.Hold(who); is.held {
					is.who = who
				} else {
					c.Drop(who)
				}
				if is.closed {
					c.Shut()
				}
				stands(t, c, is)
				visit(c, is)
			}
		}
	}
}

// P16.1: Hold and Drop go by who holds it alone, and change that alone, of one that is closed, too, and at any watermark.
func TestHoldAndDropStandApart(t *testing.T) {
	for _, other := range whoever() {
		states(t, func(c *Ctl, is look) {
			may := !is.held || is.who == other
			if may {
				is.who, is.held = other, true
			}
			holds(t, c, other, may, is)
		})
		states(t, func(c *Ctl, is look) {
			may := is.held && is.who == other
			if may {
				is.who, is.held = 0, false
			}
			drops(t, c, other, may, is)
		})
	}
}

// P16.2: Raise goes by the watermark alone, and changes that alone, whoever holds it, and of one that is closed, too.
func TestRaiseStandsApart(t *testing.T) {
	for _, mark := range marks() {
		states(t, func(c *Ctl, is look) {
			may := mark > is.mark
			is.mark = max(is.mark, mark)
			raises(t, c, mark, may, is)
		})
	}
}

// P16.2: Shut goes by whether it is closed alone, and changes that alone, whoever holds it.
func TestShutStandsApart(t *testing.T) {
	states(t, func(c *Ctl, is look) {
		may := !is.closed
		is.closed = true
		shuts(t, c, may, is)
		shuts(t, c, false, is)
	})
}

// P16.3: whoever holds it does, and what is closed stays so, behind whatever the others do, for long.
func TestWhatStays(t *testing.T) {
	c, w := New(), &words{}
	w.does(t, c, step{kind: hold, who: 3})
	w.does(t, c, step{kind: shut})
	for n := range 5000 {
		w.does(t, c, step{kind: hold, who: n%7 - 3})
		if who := n%11 - 5; who != 3 {
			w.does(t, c, step{kind: drop, who: who})
		}
		w.does(t, c, step{kind: raise, mark: int64(n*7919%5003) - 2500})
		w.does(t, c, step{kind: shut})
		if is := looked(c); is.who != 3 || !is.held || !is.closed {
			t.Fatalf("it tells %+v behind %d rounds", is, n+1)
		}
	}
	stands(t, c, look{mark: 2502, who: 3, held: true, closed: true})
}

// drawn is any step; its numbers are mostly few, so that they meet.
func drawn(r *rand.Rand) step {
	s := step{kind: []string{hold, drop, raise}[r.Intn(3)], who: r.Intn(4) - 1}
	if r.Intn(40) == 0 {
		s.kind = shut
	}
	switch r.Intn(12) {
	case 0:
		s.who, s.mark = whoever()[r.Intn(len(whoever()))], marks()[r.Intn(len(marks())-4)]
	case 1:
		s.who, s.mark = int(r.Uint64()), int64(r.Uint64())>>r.Intn(64)>>1
	default:
		s.mark = int64(r.Intn(400) - 200)
	}
	return s
}

// P16.1 to P16.3, P1: random rows of steps come to what the words say.
func TestRandomRows(t *testing.T) {
	seed, told := int64(0), map[string][2]int{}
	defer func() {
		if t.Failed() {
			t.Logf("seed %d", seed)
		}
	}()
	for ; seed < 400; seed++ {
		r := rand.New(rand.NewSource(seed))
		c, w := New(), &words{}
		for range 200 {
			s := drawn(r)
			n := told[s.kind]
			if w.does(t, c, s) {
				n[1]++
			} else {
				n[0]++
			}
			told[s.kind] = n
		}
	}
	for _, kind := range []string{hold, drop, raise, shut} {
		if n := told[kind]; n[0] < 100 || n[1] < 100 {
			t.Errorf("%s told false and true %v times", kind, n)
		}
	}
}
