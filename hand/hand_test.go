package hand

import (
	"math"
	"slices"
	"strconv"
	"testing"

	"easel/api"
	"easel/group"
	"easel/owner"
	"easel/shard"
)

// edges are numbers of which most are neither a group's nor a shard's.
func edges() []int {
	return []int{
		math.MinInt, math.MinInt + 1, math.MinInt32, -1 << 16, -256, -17, -16, -9, -8, -2, -1, 0, 1, 2, 3, 7, 8, 9, 15, 16, 17,
		255, 256, 257, 1 << 16, math.MaxInt32, 1 << 32, 1<<32 + 1, math.MaxInt - 1, math.MaxInt,
	}
}

// beyond are those of them that aren't 0 to below n.
func beyond(n int) []int {
	return slices.DeleteFunc(append(edges(), n), func(i int) bool { return i >= 0 && i < n })
}

// state is a group with so many panes.
func state(t *testing.T, panes int) *group.Group {
	t.Helper()
	g, err := group.New(api.Config{Kind: api.Tumbling, Size: 10, Shards: 1, Groups: 1, Cap: 1})
	if err != nil {
		t.Fatal(err)
	}
	for i := range panes {
		g.Take("k"+strconv.Itoa(i), 3, 5, api.Least)
	}
	return g
}

func gave(n int, g *group.Group) shard.Did {
	return shard.Did{Msg: shard.Msg{Kind: shard.Give, Group: n}, State: g}
}

func had(n int) shard.Did { return shard.Did{Msg: shard.Msg{Kind: shard.Have, Group: n}} }

// board is a table, and whose its groups are by the words.
type board struct {
	t      *testing.T
	table  *owner.Table
	shards int
	owns   []owner.Own
}

func laid(t *testing.T, groups, shards int) *board {
	t.Helper()
	table, err := owner.New(groups, shards)
	if err != nil {
		t.Fatalf("owner.New(%d, %d): %v", groups, shards, err)
	}
	b := &board{t: t, table: table, shards: shards}
	for n := range groups {
		b.owns = append(b.owns, owner.Own{Shard: n % shards})
	}
	return b
}

// holds holds all that the table tells.
func (b *board) holds() {
	b.t.Helper()
	for n, want := range b.owns {
		if own, is := b.table.Of(n); own != want || !is {
			b.t.Fatalf("Of(%d) = %+v, %t; want %+v, true", n, own, is, want)
		}
	}
	if _, is := b.table.Of(len(b.owns)); is || b.table.Shards() != b.shards {
		b.t.Fatalf("the table has more than %d groups, or not %d shards", len(b.owns), b.shards)
	}
}

// refuses holds that New tells that error, itself, and nothing else, and that the table is as it was.
func (b *board) refuses(n, to int, want api.Code) {
	b.t.Helper()
	h, err := New(b.table, n, to)
	if code, is := err.(api.Code); h != nil || !is || code != want {
		b.t.Fatalf("New(.., %d, %d) = %v, %#v; want nil, %#v", n, to, h, err, want)
	}
	b.holds()
}

// twin is a handoff, and what was done of it by the words.
type twin struct {
	*board
	h                     *Hand
	n, to, version        int  // the version is the one that the group had ahead of it
	asked, gone, put, had bool // Give was sent, and done; Have was sent, and done
	state                 *group.Group
}

// begins makes a handoff of a group that may be handed off.
func (b *board) begins(n, to int) *twin {
	b.t.Helper()
	h, err := New(b.table, n, to)
	if h == nil || err != nil {
		b.t.Fatalf("New(.., %d, %d) = %v, %v; want a handoff", n, to, h, err)
	}
	b.owns[n].Moving = true
	x := &twin{board: b, h: h, n: n, to: to, version: b.owns[n].Version}
	x.stands()
	return x
}

// wants is what is to be sent, and where to, by the words.
func (x *twin) wants() (int, shard.Msg, bool) {
	switch {
	case !x.asked:
		return x.owns[x.n].Shard, shard.Msg{Kind: shard.Give, Group: x.n}, true
	case x.gone && !x.put:
		return x.to, shard.Msg{Kind: shard.Have, Group: x.n, State: x.state}, true
	}
	return 0, shard.Msg{}, false
}

// stands holds all that the handoff and the table tell, twice, as asking changes nothing.
func (x *twin) stands() {
	x.t.Helper()
	for range 2 {
		to, m, is := x.wants()
		if gotTo, got, gotIs := x.h.Ask(); gotTo != to || got != m || gotIs != is {
			x.t.Fatalf("Ask() = %d, %+v, %t; want %d, %+v, %t", gotTo, got, gotIs, to, m, is)
		}
		if over := x.h.Over(); over != x.had {
			x.t.Fatalf("Over() = %t; want %t", over, x.had)
		}
		x.holds()
	}
}

func (x *twin) sent() {
	x.t.Helper()
	_, _, want := x.wants()
	if got := x.h.Sent(); got != want {
		x.t.Fatalf("Sent() = %t; want %t", got, want)
	}
	if want && x.asked {
		x.put = true
	}
	x.asked = true
	x.stands()
}

func (x *twin) did(d shard.Did) {
	x.t.Helper()
	mine := d.Msg.Group == x.n
	give := mine && d.Msg.Kind == shard.Give && x.asked && !x.gone
	have := mine && d.Msg.Kind == shard.Have && x.put && !x.had
	if got := x.h.Did(d); got != (give || have) {
		x.t.Fatalf("Did(%+v) = %t; want %t", d, got, give || have)
	}
	if give {
		x.gone, x.state = true, d.State
	}
	if have {
		x.had = true
		x.owns[x.n] = owner.Own{Shard: x.to, Version: x.owns[x.n].Version + 1}
	}
	x.stands()
}

// steps are what ends a handoff, one behind the other.
func (x *twin) steps(g *group.Group) []func() {
	return []func(){x.sent, func() { x.did(gave(x.n, g)) }, x.sent, func() { x.did(had(x.n)) }}
}

// upTo does the first so many of them.
func (x *twin) upTo(n int, g *group.Group) {
	for _, step := range x.steps(g)[:n] {
		step()
	}
}

// ends does those from the n-th one on, and holds P15.2.
func (x *twin) ends(n int, g *group.Group) {
	x.t.Helper()
	for _, step := range x.steps(g)[n:] {
		step()
	}
	own, is := x.table.Of(x.n)
	if !is || !x.h.Over() || own != (owner.Own{Shard: x.to, Version: x.version + 1}) {
		x.t.Fatalf("over, Of(%d) = %+v, %t; want shard %d, version %d", x.n, own, is, x.to, x.version+1)
	}
}

// P15.1: ErrArg ahead of all else, whatever group and shard.
func TestNewWithoutATable(t *testing.T) {
	for _, n := range edges() {
		for _, to := range edges() {
			h, err := New(nil, n, to)
			if code, is := err.(api.Code); h != nil || !is || code != api.ErrArg {
				t.Fatalf("New(nil, %d, %d) = %v, %#v; want nil, ErrArg", n, to, h, err)
			}
		}
	}
}

// P15.1: ErrNone, also where the shard isn't there either.
func TestNewOfAGroupThatThereIsNot(t *testing.T) {
	for groups := 1; groups <= api.MaxGroups; groups++ {
		for _, shards := range []int{1, 2, api.MaxShards} {
			b := laid(t, groups, shards)
			for _, n := range beyond(groups) {
				for _, to := range append(edges(), shards-1, shards) {
					b.refuses(n, to, api.ErrNone)
				}
			}
		}
	}
}

// P15.1: ErrBusy, also where the shard isn't there either, of a group that is frozen.
func TestNewOfAFrozenGroup(t *testing.T) {
	for n := range 5 {
		b := laid(t, 5, 3)
		if err := b.table.Freeze(n); err != nil {
			t.Fatal(err)
		}
		b.owns[n].Moving = true
		for _, to := range edges() {
			b.refuses(n, to, api.ErrBusy)
		}
		b.refuses(5, 3, api.ErrNone)
		for other := range 5 {
			if other != n {
				b.refuses(other, 3, api.ErrArg)
				b.begins(other, 1).ends(0, nil)
			}
		}
	}
}

// P15.1: ErrBusy at each state of a handoff, up to the end; it goes on as if nobody had asked.
func TestNewOfAGroupThatIsHandedOff(t *testing.T) {
	for n := range 5 {
		for to := range 3 {
			for done := range 4 {
				b := laid(t, 5, 3)
				x := b.begins(n, to)
				x.upTo(done, nil)
				for _, other := range edges() {
					b.refuses(n, other, api.ErrBusy)
				}
				x.stands()
				x.ends(done, nil)
				b.refuses(n, 3, api.ErrArg)
				b.begins(n, (to+1)%3).ends(0, nil)
			}
		}
	}
}

// P15.1: ErrArg; the group isn't frozen by it, and can be handed off afterwards.
func TestNewToAShardThatThereIsNot(t *testing.T) {
	for shards := 1; shards <= api.MaxShards; shards++ {
		for _, groups := range []int{1, 3, api.MaxGroups} {
			b := laid(t, groups, shards)
			for n := range groups {
				for round := range 2 { // of version 0, and of 1
					for _, to := range beyond(shards) {
						b.refuses(n, to, api.ErrArg)
					}
					if own, _ := b.table.Of(n); own.Moving || own.Version != round {
						t.Fatalf("Of(%d) = %+v; want version %d, not moving", n, own, round)
					}
					b.begins(n, (n+1)%shards).ends(0, nil)
				}
			}
		}
	}
}

// P15.1: of each group, to each shard: the group is moving, of the owner and version that it had, and no other one is.
func TestNew(t *testing.T) {
	for groups := 1; groups <= api.MaxGroups; groups++ {
		for shards := 1; shards <= api.MaxShards; shards++ {
			for n := range groups {
				b := laid(t, groups, shards)
				for to := range shards {
					before, _ := b.table.Of(n)
					x := b.begins(n, to)
					after, is := b.table.Of(n)
					if before.Moving || !is || after != (owner.Own{Shard: before.Shard, Version: to, Moving: true}) {
						t.Fatalf("New(.., %d, %d) made %+v of %+v", n, to, after, before)
					}
					x.ends(0, nil)
				}
			}
		}
	}
}

// P15.1: the example, and a whole handoff, each answer written out.
func TestAWholeHandoff(t *testing.T) {
	table, err := owner.New(3, 2)
	if err != nil {
		t.Fatal(err)
	}
	h, err := New(table, 2, 1)
	if err != nil {
		t.Fatal(err)
	}
	if none, err := New(table, 2, 0); none != nil || err != api.ErrBusy {
		t.Errorf("New of a group that is moving = %v, %v; want nil, ErrBusy", none, err)
	}
	is := func(what bool, name string) {
		t.Helper()
		if !what {
			t.Errorf("not so: %s", name)
		}
	}
	asks := func(to int, m shard.Msg, any bool) {
		t.Helper()
		if gotTo, got, gotAny := h.Ask(); gotTo != to || got != m || gotAny != any {
			t.Errorf("Ask() = %d, %+v, %t; want %d, %+v, %t", gotTo, got, gotAny, to, m, any)
		}
	}
	owned := func(want owner.Own) {
		t.Helper()
		if own, _ := table.Of(2); own != want || h.Over() == want.Moving {
			t.Errorf("Of(2) = %+v, Over() = %t; want %+v", own, h.Over(), want)
		}
	}
	g, moving := state(t, 2), owner.Own{Moving: true}
	asks(0, shard.Msg{Kind: 3, Group: 2}, true)
	is(!h.Did(gave(2, g)), "Give isn't waited for ahead of Sent")
	owned(moving)
	is(h.Sent(), "Give was to be sent")
	asks(0, shard.Msg{}, false)
	is(!h.Sent(), "Give was sent already")
	owned(moving)
	is(h.Did(gave(2, g)), "Give is waited for")
	asks(1, shard.Msg{Kind: 4, Group: 2, State: g}, true)
	owned(moving)
	is(h.Sent(), "Have was to be sent")
	asks(0, shard.Msg{}, false)
	owned(moving)
	is(h.Did(had(2)), "Have is waited for")
	asks(0, shard.Msg{}, false)
	is(!h.Sent(), "nothing is to be sent any more")
	owned(owner.Own{Shard: 1, Version: 1})
}

// P15.1: to the shard that has the group already: it goes as to another one, and the version is one more.
func TestToTheShardThatHasIt(t *testing.T) {
	for shards := 1; shards <= api.MaxShards; shards++ {
		b := laid(t, api.MaxGroups, shards)
		for round := 1; round <= 3; round++ {
			for n := range api.MaxGroups {
				x := b.begins(n, n%shards)
				x.upTo(2, state(t, n))
				if to, m, is := x.h.Ask(); !is || to != n%shards || m.Kind != shard.Have || m.State.Len() != n {
					t.Fatalf("Ask() = %d, %+v, %t; want Have of shard %d", to, m, is, n%shards)
				}
				x.ends(2, nil)
				if own, _ := b.table.Of(n); own != (owner.Own{Shard: n % shards, Version: round}) {
					t.Fatalf("Of(%d) = %+v; want version %d", n, own, round)
				}
			}
		}
	}
}
