package ctl

import (
	"math"
	"testing"

	"easel/api"
)

// look is all that a control tells.
type look struct {
	mark         int64
	who          int
	held, closed bool
}

// fresh is what a new control tells.
func fresh() look { return look{mark: math.MinInt64} }

func looked(c *Ctl) look {
	who, held := c.Holder()
	return look{mark: c.Mark(), who: who, held: held, closed: c.Closed()}
}

// stands holds all that a control tells against what is wanted, twice, as asking changes nothing.
func stands(t *testing.T, c *Ctl, want look) {
	t.Helper()
	for range 2 {
		if got := looked(c); got != want {
			t.Fatalf("it tells %+v; want %+v", got, want)
		}
	}
}

// tells does a step, and holds what it tells, and what the control tells behind it, against what is wanted.
func tells(t *testing.T, c *Ctl, s step, want bool, behind look) {
	t.Helper()
	if got := s.of(c); got != want {
		t.Fatalf("%+v = %v; want %v", s, got, want)
	}
	stands(t, c, behind)
}

func holds(t *testing.T, c *Ctl, who int, want bool, behind look) {
	t.Helper()
	tells(t, c, step{kind: hold, who: who}, want, behind)
}

func drops(t *testing.T, c *Ctl, who int, want bool, behind look) {
	t.Helper()
	tells(t, c, step{kind: drop, who: who}, want, behind)
}

func raises(t *testing.T, c *Ctl, mark int64, want bool, behind look) {
	t.Helper()
	tells(t, c, step{kind: raise, mark: mark}, want, behind)
}

func shuts(t *testing.T, c *Ctl, want bool, behind look) {
	t.Helper()
	tells(t, c, step{kind: shut}, want, behind)
}

// whoever are numbers of those who may hold a control: any number.
func whoever() []int {
	return []int{
		math.MinInt, math.MinInt + 1, math.MinInt32, -256, -2, -1, 0, 1, 2, 5, 6, 7, 255, 256,
		math.MaxInt32, math.MaxInt32 + 1, 1 << 32, 1<<32 + 1, math.MaxInt - 1, math.MaxInt,
	}
}

// marks are watermarks, rising.
func marks() []int64 {
	return []int64{
		math.MinInt64, math.MinInt64 + 1, math.MinInt64 + 2, math.MinInt32 - 1, math.MinInt32, -256, -2, -1, 0, 1, 2, 255, 256,
		math.MaxInt32, math.MaxInt32 + 1, 1 << 32, 1 << 62, math.MaxInt64 - 1, math.MaxInt64,
	}
}

// held is what a new control tells, once it is held.
func held(who int) look { return look{mark: math.MinInt64, who: who, held: true} }

// P16.1: a new one has the least watermark, and is neither held nor closed.
func TestNew(t *testing.T) {
	c := New()
	if c == nil {
		t.Fatal("New() = nil")
	}
	stands(t, c, fresh())
	if c.Mark() != api.Least {
		t.Errorf("Mark() = %d; want Least", c.Mark())
	}
}

// P16.1, R2: what is done to one shows in no other, whether it was made ahead of that or behind.
func TestNewOnesAreApart(t *testing.T) {
	one, other := New(), New()
	if one == other {
		t.Fatal("New() tells the same one twice")
	}
	holds(t, one, 4, true, held(4))
	raises(t, one, 8, true, look{mark: 8, who: 4, held: true})
	shuts(t, one, true, look{mark: 8, who: 4, held: true, closed: true})
	stands(t, other, fresh())
	stands(t, New(), fresh())
	holds(t, other, 5, true, held(5))
	raises(t, other, -8, true, look{mark: -8, who: 5, held: true})
	drops(t, one, 4, true, look{mark: 8, closed: true})
	stands(t, other, look{mark: -8, who: 5, held: true})
}

// The chapter's example, with Holder told between.
func TestExample(t *testing.T) {
	c := New()
	holds(t, c, 1, true, held(1))
	holds(t, c, 2, false, held(1))
	drops(t, c, 1, true, fresh())
	holds(t, c, 2, true, held(2))
}

// P16.1: whoever holds one that is none's has it, has it again, and keeps it, whoever else asks.
func TestHold(t *testing.T) {
	for _, who := range whoever() {
		c := New()
		holds(t, c, who, true, held(who))
		holds(t, c, who, true, held(who))
		for _, other := range whoever() {
			holds(t, c, other, other == who, held(who))
		}
		holds(t, c, who, true, held(who))
	}
}

// P16.1, R3: one that is held by 0 is held, and one that is none's tells 0 whoever held it.
func TestHoldOfZero(t *testing.T) {
	c := New()
	holds(t, c, 0, true, look{mark: math.MinInt64, held: true})
	holds(t, c, 1, false, held(0))
	drops(t, c, 1, false, held(0))
	holds(t, c, 0, true, held(0))
	drops(t, c, 0, true, fresh())
	drops(t, c, 0, false, fresh())
	holds(t, c, 1, true, held(1))
	holds(t, c, 0, false, held(1))
	drops(t, c, 0, false, held(1))
	drops(t, c, 1, true, fresh())
	holds(t, c, -1, true, held(-1))
}

// P16.1: whoever has it drops it, once; it is none's then, and whoever comes first has it.
func TestDrop(t *testing.T) {
	for _, who := range whoever() {
		for _, other := range whoever() {
			if other == who {
				continue
			}
			c := New()
			holds(t, c, who, true, held(who))
			drops(t, c, other, false, held(who))
			drops(t, c, who, true, fresh())
			drops(t, c, who, false, fresh())
			drops(t, c, other, false, fresh())
			holds(t, c, other, true, held(other))
			holds(t, c, who, false, held(other))
			drops(t, c, who, false, held(other))
			drops(t, c, other, true, fresh())
			holds(t, c, who, true, held(who))
		}
	}
}

// P16.1: where it is none's nobody drops it, 0 neither.
func TestDropOfNones(t *testing.T) {
	c := New()
	for _, who := range whoever() {
		drops(t, c, who, false, fresh())
	}
	holds(t, c, 3, true, held(3))
	drops(t, c, 3, true, fresh())
	for _, who := range whoever() {
		drops(t, c, who, false, fresh())
	}
}

// P16.1: Holds aren't counted: one Drop behind many of them makes it none's.
func TestDropBehindManyHolds(t *testing.T) {
	for many := 1; many <= 40; many++ {
		c := New()
		for range many {
			holds(t, c, 9, true, held(9))
		}
		drops(t, c, 9, true, fresh())
		drops(t, c, 9, false, fresh())
		holds(t, c, 8, true, held(8))
	}
}

// P16.2: Raise by hand: above the watermark, the watermark itself, and below it.
func TestRaise(t *testing.T) {
	rows := []struct {
		mark int64
		want bool
		now  int64
	}{
		{math.MinInt64, false, math.MinInt64},
		{math.MinInt64 + 1, true, math.MinInt64 + 1},
		{math.MinInt64 + 1, false, math.MinInt64 + 1},
		{math.MinInt64, false, math.MinInt64 + 1},
		{-5, true, -5},
		{-5, false, -5},
		{-6, false, -5},
		{-4, true, -4},
		{0, true, 0},
		{-1, false, 0},
		{0, false, 0},
		{1, true, 1},
		{math.MinInt64, false, 1},
		{1 << 40, true, 1 << 40},
		{1<<40 - 1, false, 1 << 40},
		{math.MaxInt64 - 1, true, math.MaxInt64 - 1},
		{math.MaxInt64, true, math.MaxInt64},
		{math.MaxInt64, false, math.MaxInt64},
		{math.MaxInt64 - 1, false, math.MaxInt64},
		{math.MinInt64, false, math.MaxInt64},
		{0, false, math.MaxInt64},
	}
	c := New()
	for _, r := range rows {
		raises(t, c, r.mark, r.want, look{mark: r.now})
	}
}

// P16.2: from every edge to every other one.
func TestRaiseOfEdges(t *testing.T) {
	for i, from := range marks() {
		for j, to := range marks() {
			c := New()
			raises(t, c, from, i > 0, look{mark: from})
			now := from
			if j > i {
				now = to
			}
			raises(t, c, to, j > i, look{mark: now})
		}
	}
}

// P16.2: nothing is above the greatest number, and a new control goes there at once.
func TestRaiseToTheGreatest(t *testing.T) {
	c := New()
	raises(t, c, math.MaxInt64, true, look{mark: math.MaxInt64})
	for _, mark := range marks() {
		raises(t, c, mark, false, look{mark: math.MaxInt64})
	}
}

// P16.2: the first Shut closes it, and the others tell that it was closed.
func TestShut(t *testing.T) {
	c := New()
	shuts(t, c, true, look{mark: math.MinInt64, closed: true})
	for range 20 {
		shuts(t, c, false, look{mark: math.MinInt64, closed: true})
	}
	stands(t, New(), fresh())
}

// P1: every call ends, at all edges, of one and the same control.
func TestEveryCallEnds(t *testing.T) {
	c, w := New(), &words{}
	for _, who := range whoever() {
		for _, mark := range marks() {
			for _, s := range []step{{kind: hold, who: who}, {kind: raise, mark: mark}, {kind: drop, who: -who}, {kind: shut}, {kind: drop, who: who}} {
				w.does(t, c, s)
			}
		}
	}
}
