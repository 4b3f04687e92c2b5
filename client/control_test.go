package client

import (
	"math"
	"testing"

	"easel/api"
	"easel/call"
	"easel/group"
	"easel/owner"
	"easel/shard"
)

func advance(mark int64) api.Call { return api.Call{Op: api.Advance, Time: mark} }

func rebalance(group, to int) api.Call {
	return api.Call{Op: api.Rebalance, Group: group, Shard: to}
}

func closing() api.Call { return api.Call{Op: api.Close} }

// P17.1: Advance, Rebalance and Close: nothing while another one holds the control, whatever its number is; the call begins in
// the first of these steps, once, and holds it in the step in which it can be held.
func TestWhileAnotherHoldsTheControl(t *testing.T) {
	for _, y := range changes() {
		for _, number := range []int{0, 1, -1, math.MinInt, math.MaxInt} {
			for _, other := range edges() {
				if other == number {
					continue
				}
				s := built(t, tumbling(2, 3, 2))
				s.Ctl.Hold(other)
				x := s.client(number, y)
				x.steps(begins, none, none, none)
				s.holder(other, true)
				if s.Ctl.Mark() != api.Least || s.Ctl.Closed() || s.stands().owns[1].Moving {
					t.Fatalf("%+v did something while it waited: %+v", y, s.stands())
				}
				s.Ctl.Drop(other)
				x.steps(points)
				s.holder(number, true)
			}
		}
	}
}

// P17.1: what else stands in a keyed call's way doesn't stand in theirs; of the control they ask in the step in which it is
// held.
func TestHeldInTheFirstStep(t *testing.T) {
	for _, y := range changes() {
		s := built(t, tumbling(2, 3, 1))
		s.freeze(2)
		s.fill(0)
		s.fill(1)
		x := s.client(4, y)
		x.steps(starts)
		s.holder(4, true)
		s.mail(1, 1)
		is := s.stands()
		if (is.mark == 5) != (y.Op == api.Advance) || is.owns[1].Moving != (y.Op == api.Rebalance) || is.closed != (y.Op == api.Close) {
			t.Fatalf("behind %+v all stands as %+v", y, is)
		}
		if is.shut[0] != is.closed || is.shut[1] != is.closed || is.owns[0].Moving || !is.owns[2].Moving {
			t.Fatalf("behind %+v all stands as %+v", y, is)
		}
	}
}

// P17.1: where the control is closed: Closed, at this point, in the step in which it is held, and it is dropped; nothing else
// is changed.
func TestChangeWhereTheControlIsClosed(t *testing.T) {
	for _, y := range append(changes(), advance(-9), advance(api.Least), rebalance(2, 1)) {
		s := built(t, tumbling(2, 3, 1))
		s.Ctl.Raise(0)
		s.Ctl.Shut()
		s.freeze(2)
		s.fill(0)
		was := s.stands()
		x := s.client(4, y, y)
		x.steps(refused(api.Closed), refused(api.Closed), none)
		s.holder(0, false)
		if is := s.stands(); is != was {
			t.Fatalf("behind %+v all stands as %+v; it stood as %+v", y, is, was)
		}
		s.Ctl.Hold(9)
		x = s.client(4, y)
		x.steps(begins, none)
		s.Ctl.Drop(9)
		x.steps(later(api.Closed), none)
		if is := s.stands(); is != was {
			t.Fatalf("behind %+v all stands as %+v; it stood as %+v", y, is, was)
		}
	}
}

// P17.1: closed while it waited for the control.
func TestClosedWhileItWaited(t *testing.T) {
	for _, y := range changes() {
		s := built(t, tumbling(2, 3, 1))
		other := s.client(9, closing())
		s.fill(1)
		other.steps(starts, none)
		x := s.client(4, y)
		x.steps(begins, none)
		s.free(1)
		x.steps(none)
		other.steps(ends)
		x.steps(later(api.Closed), none)
		s.holder(0, false)
	}
}

// P17.1: Stale, at this point, of an Advance that doesn't raise the watermark, and the control is dropped.
func TestStale(t *testing.T) {
	rows := []struct{ mark, time int64 }{
		{api.Least, api.Least}, {0, 0}, {0, -1}, {0, api.Least}, {5, 4}, {5, 5}, {-5, -6}, {math.MaxInt64, math.MaxInt64},
		{math.MaxInt64, math.MaxInt64 - 1}, {math.MaxInt64, api.Least}, {api.Least + 1, api.Least},
	}
	for _, row := range rows {
		s := built(t, tumbling(2, 3, 1))
		s.Ctl.Raise(row.mark)
		was := s.stands()
		x := s.client(4, advance(row.time), advance(row.time))
		x.steps(refused(api.Stale), refused(api.Stale), none)
		if is := s.stands(); is != was || is.held {
			t.Fatalf("%d at %d: all stands as %+v; it stood as %+v", row.time, row.mark, is, was)
		}
		s.Ctl.Hold(9)
		x = s.client(4, advance(row.time))
		x.steps(begins, none)
		s.Ctl.Drop(9)
		x.steps(later(api.Stale), none)
		s.holder(0, false)
	}
}

// P17.1: it is Stale by the watermark at its point, not by that at which it began.
func TestStaleByThenOnly(t *testing.T) {
	s := built(t, tumbling(1, 1, 1))
	other := s.client(9, advance(5))
	other.steps(starts)
	x, y := s.client(4, advance(5)), s.client(3, advance(6))
	x.steps(begins, none)
	y.steps(begins, none)
	other.steps(goes)
	other.works(0)
	x.steps(none)
	other.steps(ends)
	x.steps(later(api.Stale), none)
	y.steps(points)
}

// P17.1: Advance: the watermark is raised at its point; a Mark into each shard's mailbox, by rising numbers, one each step;
// done once all were done.
func TestAdvance(t *testing.T) {
	for shards := 1; shards <= api.MaxShards; shards++ {
		for _, mark := range []int64{api.Least + 1, -1, 0, 5, math.MaxInt64} {
			s := built(t, tumbling(shards, 5, 2))
			x := s.client(4, advance(mark), api.Call{})
			want := make([]int, shards)
			x.steps(starts)
			s.mail(want...)
			for n := range shards {
				if s.Ctl.Mark() != mark {
					t.Fatalf("the watermark is %d; want %d", s.Ctl.Mark(), mark)
				}
				s.holder(4, true)
				x.steps(goes)
				want[n] = 1
				s.mail(want...)
			}
			x.steps(none, none)
			for n := range shards {
				x.steps(none)
				x.did(shard.Did{Msg: s.takes(n, shard.Msg{Kind: shard.Mark})}, true)
				s.holder(4, true)
			}
			x.steps(ends)
			s.holder(0, false)
			s.mail(make([]int, shards)...)
			x.steps(refused(api.Bad), none)
		}
	}
}

// P17.1: nothing while a shard's mailbox is full; the later ones get no Mark ahead of it.
func TestAdvanceWaitsForRoom(t *testing.T) {
	for n := range 3 {
		s := built(t, tumbling(3, 3, 2))
		s.fill(n)
		x := s.client(4, advance(5))
		x.steps(starts)
		want := make([]int, 3)
		want[n] = 2
		for i := range n {
			x.steps(goes)
			want[i] = 1
		}
		x.steps(none, none, none)
		s.mail(want...)
		for i := range n {
			x.works(i)
			x.steps(none)
		}
		s.free(n)
		x.steps(goes)
		for i := n + 1; i < 3; i++ {
			x.steps(goes)
		}
		x.steps(none)
		s.free(n)
		for i := n; i < 3; i++ {
			x.steps(none)
			x.works(i)
		}
		x.steps(ends, none)
		s.holder(0, false)
	}
}

// P17.1: Marks that are done out of order, and while others are still to be put: it is done only once all were.
func TestMarksDoneInAnyOrder(t *testing.T) {
	s := built(t, tumbling(3, 3, 1))
	x := s.client(4, advance(5), advance(6))
	x.steps(starts, goes, goes, goes, none)
	for _, n := range []int{2, 0, 1} {
		x.steps(none)
		x.works(n)
	}
	x.steps(ends)
	// each is done right behind its being put
	x.steps(starts)
	for n := range 3 {
		x.steps(goes)
		x.works(n)
		s.holder(4, true)
	}
	x.steps(ends, none)
	// the second one is done ahead of the third one's being put, the first one behind that
	y := s.client(5, advance(7))
	y.steps(starts, goes, goes)
	y.works(1)
	y.steps(goes, none)
	y.works(2)
	y.steps(none)
	y.works(0)
	y.steps(ends, none)
}

// P17.1: of Marks it awaits just so many as were put and aren't done yet.
func TestNoMoreMarksThanWerePut(t *testing.T) {
	s := built(t, tumbling(2, 2, 1))
	mark := shard.Did{Msg: shard.Msg{Kind: shard.Mark}, Out: []api.Pane{{Key: "o"}}}
	x := s.client(4, advance(5))
	x.did(mark, false)
	x.steps(starts)
	x.did(mark, false)
	x.steps(goes)
	x.did(mark, true)
	x.did(mark, false)
	x.steps(goes)
	x.did(mark, true)
	x.did(mark, false)
	x.steps(ends)
	x.did(mark, false)
	x.steps(none)
}

// P17.1: what an Advance awaits are Marks alone; and neither a Rebalance nor a Close awaits one.
func TestDidOfWhatAChangeDoesNotAwait(t *testing.T) {
	for _, y := range changes() {
		s := built(t, tumbling(2, 3, 1))
		x := s.client(4, y)
		list := []shard.Did{{}, {Moved: true}, {Msg: asked(4, y)}, {Msg: asked(4, y), Moved: true}, {Msg: asked(4, api.Call{})}}
		for _, kind := range []int{-1, 0, 3, 4, 5, 1<<8 + 2, 1<<32 + 2, math.MinInt, math.MaxInt} {
			list = append(list, shard.Did{Msg: shard.Msg{Kind: kind, From: 4}}, shard.Did{Msg: shard.Msg{Kind: kind, Group: 2}, State: new(group.Group)})
		}
		not := func(more ...shard.Did) {
			t.Helper()
			for _, d := range append(list, more...) {
				was := s.stands()
				x.did(d, false)
				if is := s.stands(); is != was {
					t.Fatalf("Did(%+v) changed %+v to %+v", d, was, is)
				}
			}
		}
		mark := shard.Did{Msg: shard.Msg{Kind: shard.Mark}}
		give, have := shard.Did{Msg: shard.Msg{Kind: shard.Give, Group: 1}}, shard.Did{Msg: shard.Msg{Kind: shard.Have, Group: 1}}
		not(mark, give, have)
		s.Ctl.Hold(9)
		x.steps(begins)
		not(mark, give, have)
		s.Ctl.Drop(9)
		x.steps(points)
		not(mark, give, have)
		switch y.Op {
		case api.Advance:
			x.steps(goes, goes, none)
			not(give, have)
			x.works(1)
			not(give, have)
			x.works(0)
		case api.Rebalance:
			x.steps(goes, none)
			not(mark, have)
			x.works(1)
			not(mark, give, have)
			x.steps(goes, none)
			not(mark, give)
			x.works(0)
		}
		not(mark, give, have)
		x.steps(ends)
		not(mark, give, have)
		x.steps(none)
	}
}

// P17.1: Rebalance: the handoff is begun at its point; Give, and then Have with the state, are put as it asks for them; it is
// done behind the Have.
func TestRebalance(t *testing.T) {
	for shards := 1; shards <= 3; shards++ {
		for n := range 4 {
			for to := range shards {
				s := built(t, tumbling(shards, 4, 2))
				from := n % shards
				y := api.Call{Op: api.Ingest, Key: key(4, n, 0), Time: 3, Value: 5}
				z := s.client(9, y)
				z.steps(begins)
				z.works(from)
				z.steps(ends)
				x := s.client(4, rebalance(n, to), api.Call{})
				x.steps(starts)
				s.mail(make([]int, shards)...)
				if own, _ := s.Table.Of(n); own != (owner.Own{Shard: from, Moving: true}) {
					t.Fatalf("at its point group %d is %+v", n, own)
				}
				x.steps(goes, none, none)
				d := s.work(from)
				if d.Msg != (shard.Msg{Kind: shard.Give, Group: n}) || d.State == nil {
					t.Fatalf("%+v was done; want Give", d)
				}
				x.steps(none)
				x.did(d, true)
				x.did(d, false)
				s.holder(4, true)
				x.steps(goes, none, none)
				if own, _ := s.Table.Of(n); own != (owner.Own{Shard: from, Moving: true}) {
					t.Fatalf("ahead of Have group %d is %+v", n, own)
				}
				e := s.work(to)
				if e.Msg != (shard.Msg{Kind: shard.Have, Group: n, State: d.State}) {
					t.Fatalf("%+v was done; want Have, with the state", e)
				}
				x.steps(none)
				x.did(e, true)
				x.did(e, false)
				s.holder(4, true)
				x.steps(ends)
				s.holder(0, false)
				if own, _ := s.Table.Of(n); own != (owner.Own{Shard: to, Version: 1}) {
					t.Fatalf("behind it group %d is %+v", n, own)
				}
				x.steps(refused(api.Bad), none)
				q := s.client(9, api.Call{Op: api.QueryKey, Key: y.Key})
				q.steps(begins)
				if e := q.works(to); len(e.Reply.Panes) != 1 || e.Reply.Panes[0].Agg.Sum != 5 {
					t.Fatalf("behind it the key has %+v", e)
				}
			}
		}
	}
}

// P17.1: nothing while the mailbox that the handoff asks for is full, of Give and of Have.
func TestRebalanceWaitsForRoom(t *testing.T) {
	s := built(t, tumbling(2, 2, 1))
	s.fill(0)
	s.fill(1)
	x := s.client(4, rebalance(0, 1))
	x.steps(starts, none, none)
	s.free(0)
	x.steps(goes, none)
	s.mail(1, 1)
	x.works(0)
	x.steps(none, none)
	s.free(1)
	x.steps(goes, none)
	s.mail(0, 1)
	x.works(1)
	x.steps(ends, none)
}

// P17.1: one Rebalance behind the other, of one client, and of two; each moves the group on.
func TestRebalanceAgain(t *testing.T) {
	s := built(t, tumbling(3, 2, 1))
	x, y := s.client(4, rebalance(1, 2), rebalance(1, 0), rebalance(1, 0)), s.client(5, rebalance(1, 1))
	whole := func(x *twin, from, to int) {
		t.Helper()
		x.steps(goes)
		x.works(from)
		x.steps(goes)
		x.works(to)
		x.steps(ends)
	}
	x.steps(starts)
	y.steps(begins, none)
	whole(x, 1, 2)
	y.steps(points)
	x.steps(begins, none)
	whole(y, 2, 1)
	x.steps(points)
	whole(x, 1, 0)
	x.steps(starts)
	whole(x, 0, 0)
	if own, _ := s.Table.Of(1); own != (owner.Own{Version: 4}) {
		t.Fatalf("behind all the group is %+v", own)
	}
}

// P17.1: where the handoff can't be begun there is no point yet, and nothing is held.
func TestRebalanceOfAGroupThatIsFrozen(t *testing.T) {
	s := built(t, tumbling(2, 2, 1))
	s.freeze(1)
	x := s.client(4, rebalance(1, 0))
	x.steps(begins, none, none)
	s.holder(0, false)
	s.publish(1, 0)
	x.steps(points)
	s.holder(4, true)
}

// P17.1: Close: the control is shut, and all mailboxes are closed, at its point; nothing while a mailbox has a message; then
// OK, and the control is dropped.
func TestClose(t *testing.T) {
	for shards := 1; shards <= api.MaxShards; shards++ {
		for n := -1; n < shards; n++ {
			s := built(t, tumbling(shards, 5, 2))
			if n >= 0 {
				s.fill(n)
			}
			x := s.client(4, closing(), closing())
			x.steps(starts)
			is := s.stands()
			for i := range shards {
				if !is.shut[i] || !is.closed {
					t.Fatalf("at its point all stands as %+v", is)
				}
			}
			s.holder(4, true)
			if n >= 0 {
				x.steps(none, none)
				s.free(n)
				x.steps(none)
				s.free(n)
			}
			s.holder(4, true)
			x.steps(ends)
			s.holder(0, false)
			x.steps(refused(api.Closed), none)
			s.holder(0, false)
		}
	}
}

// P17.1: likewise with messages in several mailboxes.
func TestCloseWaitsForAllMailboxes(t *testing.T) {
	for _, order := range [][]int{{0, 1, 2}, {2, 1, 0}, {1, 2, 0}, {1, 0, 2}} {
		s := built(t, tumbling(3, 5, 1))
		for n := range 3 {
			s.fill(n)
		}
		x := s.client(4, closing())
		x.steps(starts)
		for _, n := range order {
			x.steps(none, none)
			s.holder(4, true)
			s.free(n)
		}
		x.steps(ends, none)
	}
}

// P17.1: some mailboxes, or all, were closed already.
func TestCloseOfClosedMailboxes(t *testing.T) {
	s := built(t, tumbling(3, 5, 1))
	s.fill(1)
	s.Boxes[1].Close()
	s.Boxes[2].Close()
	x := s.client(4, closing())
	x.steps(starts, none)
	s.free(1)
	x.steps(ends, none)
	if is := s.stands(); !is.shut[0] || !is.shut[1] || !is.shut[2] || !is.closed {
		t.Fatalf("behind it all stands as %+v", is)
	}
}

// P17.1: calls of others behind a Close's point, while it is under way, and once it is done: keyed ones are Closed at once;
// those that waited are; those that await are told Closed by the worker; the others wait for the control, and are Closed then.
func TestOthersBehindAClose(t *testing.T) {
	for _, op := range keyedOps() {
		s := built(t, tumbling(2, 2, 1))
		y := ofKey(op, key(2, 0, 0))
		awaits, waits, behind := s.client(1, y), s.client(2, ofKey(api.Ingest, key(2, 0, 1))), s.client(3, y)
		moves := s.client(5, rebalance(1, 0), advance(9), closing())
		x := s.client(4, closing())
		awaits.steps(begins)
		waits.steps(begins, none)
		x.steps(starts, none)
		waits.steps(later(api.Closed), none)
		behind.steps(refused(api.Closed), none)
		moves.steps(begins, none)
		awaits.steps(none)
		d := s.work(0)
		x.did(d, false)
		waits.did(d, false)
		awaits.did(d, true)
		x.steps(ends, none)
		awaits.steps(endsWith(api.Reply{Code: api.Closed}), none)
		moves.steps(later(api.Closed), refused(api.Closed), refused(api.Closed), none)
		s.mail(0, 0)
	}
}

// P17.1: two Closes at once: one is OK, the other one is Closed once the first one is done.
func TestTwoCloses(t *testing.T) {
	s := built(t, tumbling(2, 2, 1))
	x, y := s.client(4, closing()), s.client(0, closing())
	s.fill(1)
	x.steps(starts)
	y.steps(begins, none)
	s.free(1)
	y.steps(none)
	x.steps(ends)
	y.steps(later(api.Closed), none)
	s.holder(0, false)
}

// P17.1: while one holds the control the others' keyed calls go on; a group that moves is asked for where it is by then.
func TestKeyedBesideChanges(t *testing.T) {
	s := built(t, tumbling(2, 2, 2))
	put := api.Call{Op: api.Ingest, Key: key(2, 0, 0), Time: 3, Value: 5}
	query := api.Call{Op: api.QueryKey, Key: put.Key}
	x, y, z := s.client(1, rebalance(0, 1)), s.client(2, put, query), s.client(3, api.Call{Op: api.Ingest, Key: key(2, 1, 0), Time: 3})
	x.steps(starts, goes)
	y.steps(begins, none)
	z.steps(begins)
	z.works(1)
	z.steps(ends)
	x.works(0)
	y.steps(none)
	x.steps(goes)
	y.steps(none)
	x.works(1)
	y.steps(goes)
	x.steps(ends)
	y.works(1)
	y.steps(ends)
	// an Ask that is put ahead of the Rebalance, but behind its Give in the mailbox
	x = s.client(1, rebalance(0, 0))
	x.steps(starts, goes)
	s.mail(0, 1)
	s.Boxes[1].Put(asked(2, query))
	x.works(1)
	if d := s.work(1); !d.Moved {
		t.Fatalf("%+v", d)
	}
}

// P17.1: an Ask that stands ahead of Give is done by the old owner; one behind it is Moved, and is put anew to the new one,
// where it comes to what the group has.
func TestAsksAroundAGive(t *testing.T) {
	s := built(t, tumbling(2, 2, 3))
	put := api.Call{Op: api.Ingest, Key: key(2, 0, 0), Time: 3, Value: 5}
	query := api.Call{Op: api.QueryKey, Key: put.Key}
	x, y, z := s.client(1, rebalance(0, 1)), s.client(2, put), s.client(3, query)
	y.steps(begins)
	x.steps(starts, goes)
	// nothing is asked of a group that is moving: this one asked ahead of it, of a table that hadn't told it yet
	e := s.Env
	e.Table, _ = owner.New(2, 2)
	if told := z.Step(e); !sameTold(told, begins) {
		t.Fatalf("told %+v", told)
	}
	y.works(0)
	x.works(0)
	if d := z.works(0); !d.Moved {
		t.Fatalf("%+v", d)
	}
	y.steps(ends)
	z.steps(goes, none)
	x.steps(goes)
	z.steps(none)
	x.works(1)
	z.steps(goes, none)
	x.steps(ends)
	d := z.works(1)
	want := api.Reply{Panes: []api.Pane{{Key: put.Key, Span: api.Span{Start: 0, End: 10}, Agg: api.Agg{Count: 1, Sum: 5, Min: 5, Max: 5}}}}
	if d.Moved || !call.Same(d.Reply, want) {
		t.Fatalf("%+v", d)
	}
	z.steps(endsWith(want), none)
}
