package client

import (
	"math"
	"testing"

	"easel/api"
	"easel/group"
	"easel/shard"
)

// P17.1: an Ask of the call is put into the mailbox of the shard that owns the group, whichever it is, and of no other one.
func TestAskOfEachGroup(t *testing.T) {
	for _, number := range []int{0, 1, 4, -1, math.MinInt, math.MaxInt} {
		for _, op := range keyedOps() {
			for shards := 1; shards <= api.MaxShards; shards++ {
				s := built(t, tumbling(shards, api.MaxGroups, 1))
				for n := range api.MaxGroups {
					y := ofKey(op, key(api.MaxGroups, n, 0))
					y.Group, y.Shard = n+1, n-1 // these play no part
					x := s.client(number, y)
					x.steps(begins)
					want := make([]int, shards)
					want[n%shards] = 1
					s.mail(want...)
					s.takes(n%shards, asked(number, y))
				}
			}
		}
	}
}

// P17.1: likewise of a group that was moved.
func TestAskOfAGroupThatMoved(t *testing.T) {
	for _, op := range keyedOps() {
		s := built(t, tumbling(4, 4, 1))
		for i, to := range []int{3, 3, 0, 2, 1} {
			s.freeze(1)
			s.publish(1, to)
			y := ofKey(op, key(4, 1, i))
			s.client(4, y).steps(begins)
			want := make([]int, 4)
			want[to] = 1
			s.mail(want...)
			s.takes(to, asked(4, y))
		}
	}
}

// P17.1: Closed, at this point, where the control is closed, whatever else stands in its way, but that it may not be; nothing
// is put then.
func TestKeyedWhereTheControlIsClosed(t *testing.T) {
	for _, op := range keyedOps() {
		for _, hinder := range hindrances() {
			s := built(t, tumbling(2, 3, 2))
			hinder(s)
			s.Ctl.Shut()
			was := s.stands()
			y := ofKey(op, key(3, 2, 0))
			x := s.client(4, y, y, ofKey(op, ""))
			x.steps(refused(api.Closed), refused(api.Closed), refused(api.Bad), none)
			if is := s.stands(); is != was {
				t.Fatalf("all stands as %+v; it stood as %+v", is, was)
			}
		}
	}
}

// P17.1: whoever holds the control, a keyed call goes on.
func TestKeyedWhereTheControlIsHeld(t *testing.T) {
	for _, op := range keyedOps() {
		for _, who := range []int{0, 4, 5} {
			s := built(t, tumbling(1, 1, 1))
			s.Ctl.Hold(who)
			x := s.client(4, ofKey(op, "a"))
			x.steps(begins)
			d := x.works(0)
			x.steps(endsWith(d.Reply))
			s.holder(who, true)
		}
	}
}

// P17.1: nothing while the group is moving, ahead of what its mailbox stands at; it begins in the first of these steps, once.
func TestWhileTheGroupIsMoving(t *testing.T) {
	for _, op := range keyedOps() {
		y := ofKey(op, key(3, 1, 0))
		free := func(*site) {}
		full := func(s *site) { s.fill(0); s.fill(1) }
		shut := func(s *site) { s.Boxes[0].Close(); s.Boxes[1].Close() }
		for _, hinder := range []func(*site){free, full, shut} {
			s := built(t, tumbling(2, 3, 1))
			s.freeze(1)
			hinder(s)
			x := s.client(4, y)
			x.steps(begins, none, none, none)
			s.Ctl.Shut()
			x.steps(later(api.Closed), none)
		}
		s := built(t, tumbling(2, 3, 1))
		s.freeze(1)
		x := s.client(4, y)
		x.steps(begins, none, none)
		s.publish(1, 0)
		x.steps(goes, none)
		s.mail(1, 0)
		s.takes(0, asked(4, y))
	}
}

// P17.1: another group that is moving stands in no call's way.
func TestWhileAnotherGroupIsMoving(t *testing.T) {
	for _, op := range keyedOps() {
		s := built(t, tumbling(2, 3, 2))
		s.freeze(0)
		s.freeze(2)
		s.client(4, ofKey(op, key(3, 1, 0))).steps(begins)
		s.mail(0, 1)
	}
}

// P17.1: behind the moving, what the new owner's mailbox stands at.
func TestOnceTheGroupWasMoved(t *testing.T) {
	for _, op := range keyedOps() {
		moved := func(hinder func(*site)) (*site, *twin) {
			s := built(t, tumbling(2, 2, 2))
			s.freeze(0)
			x := s.client(4, ofKey(op, key(2, 0, 0)))
			x.steps(begins, none)
			hinder(s)
			s.publish(0, 1)
			return s, x
		}
		s, x := moved(func(s *site) { s.fill(1) })
		if op == api.TryIngest {
			x.steps(later(api.Full), none)
		} else {
			x.steps(none, none)
			s.free(1)
			x.steps(goes, none)
		}
		s.mail(0, 2)
		s, x = moved(func(s *site) { s.fill(1); s.Boxes[1].Close() })
		x.steps(later(api.Closed), none)
		s.mail(0, 2)
		s, x = moved(func(s *site) { s.fill(0) })
		x.steps(goes)
		s.mail(2, 1)
	}
}

// P17.1: the mailbox full: of a TryIngest Full, at this point, of others nothing, and it is put once there is room.
func TestMailboxFull(t *testing.T) {
	for room := 1; room <= api.MaxCap; room++ {
		for _, op := range keyedOps() {
			s := built(t, tumbling(3, 3, room))
			s.fill(1)
			y := ofKey(op, key(3, 1, 0))
			x := s.client(4, y)
			if op == api.TryIngest {
				x.steps(refused(api.Full), none)
				s.mail(0, room, 0)
				continue
			}
			x.steps(begins, none, none, none)
			s.mail(0, room, 0)
			s.free(1)
			x.steps(goes, none)
			s.mail(0, room, 0)
			for range room - 1 {
				s.free(1)
			}
			s.takes(1, asked(4, y))
		}
	}
}

// P17.1: one message less than there is room for is put, of each Op.
func TestMailboxAlmostFull(t *testing.T) {
	for _, op := range keyedOps() {
		s := built(t, tumbling(1, 1, 3))
		s.fill(0)
		s.free(0)
		s.client(4, ofKey(op, "a")).steps(begins)
		s.mail(3)
	}
}

// P17.1: while it waits for room, all is asked anew in each step: closed, moving, owned by another shard.
func TestWhileItWaitsForRoom(t *testing.T) {
	for _, op := range []int{api.Ingest, api.QueryPane, api.QueryKey} {
		waiting := func() (*site, *twin) {
			s := built(t, tumbling(2, 2, 1))
			s.fill(0)
			x := s.client(4, ofKey(op, key(2, 0, 0)))
			x.steps(begins, none)
			return s, x
		}
		s, x := waiting()
		s.Ctl.Shut()
		x.steps(later(api.Closed), none)
		s.mail(1, 0)
		s, x = waiting()
		s.Boxes[0].Close()
		x.steps(later(api.Closed), none)
		s.mail(1, 0)
		s, x = waiting()
		s.freeze(0)
		s.free(0)
		x.steps(none, none)
		s.publish(0, 1)
		x.steps(goes, none)
		s.mail(0, 1)
	}
}

// P17.1: the mailbox closed: Closed, at this point, be it full or not, though the control isn't closed.
func TestMailboxClosed(t *testing.T) {
	for _, op := range keyedOps() {
		for messages := range 3 {
			s := built(t, tumbling(2, 2, 2))
			for range messages {
				if err := s.Boxes[1].Put(shard.Msg{}); err != nil {
					t.Fatal(err)
				}
			}
			s.Boxes[1].Close()
			x := s.client(4, ofKey(op, key(2, 1, 0)), ofKey(op, key(2, 0, 0)))
			x.steps(refused(api.Closed), begins)
			s.mail(1, messages)
		}
	}
}

// P17.1: while it awaits, a step does nothing, whatever becomes of all else.
func TestWhileItAwaits(t *testing.T) {
	for _, op := range keyedOps() {
		for _, hinder := range hindrances() {
			s := built(t, tumbling(2, 3, 2))
			y := ofKey(op, key(3, 1, 0))
			x := s.client(4, y, y)
			x.steps(begins, none, none)
			hinder(s)
			x.steps(none, none)
			s.takes(1, asked(4, y))
			x.steps(none, none)
		}
	}
}

// replies are some that an Ask may come to.
func replies() []api.Reply {
	var list []api.Reply
	pane := func(start int64) api.Pane {
		return api.Pane{Key: "a", Span: api.Span{Start: start, End: start + 10}, Agg: api.Agg{Count: 2, Sum: 7, Min: -1, Max: 8}}
	}
	for _, code := range append(edges(), api.OK, api.Late, api.Full, api.Closed, api.BadTime, api.Stale, api.Bad) {
		list = append(list, api.Reply{Code: code}, api.Reply{Code: code, Panes: []api.Pane{pane(0), pane(20), pane(10)}})
	}
	return list
}

// P17.1: told what the Ask came to, it is done with that reply, as it stands, whatever became of all else; its point isn't in
// this step.
func TestToldAReply(t *testing.T) {
	for _, op := range keyedOps() {
		for _, r := range replies() {
			for _, hinder := range hindrances() {
				s := built(t, tumbling(2, 3, 2))
				y := ofKey(op, key(3, 1, 0))
				x := s.client(4, y, api.Call{})
				x.steps(begins)
				d := shard.Did{Msg: s.takes(1, asked(4, y)), Reply: r, Out: []api.Pane{{Key: "o"}}}
				hinder(s)
				was := s.stands()
				x.did(d, true)
				if is := s.stands(); is != was {
					t.Fatalf("behind Did all stands as %+v; it stood as %+v", is, was)
				}
				x.steps(endsWith(r))
				if is := s.stands(); is != was {
					t.Fatalf("behind the step all stands as %+v; it stood as %+v", is, was)
				}
				x.steps(refused(api.Bad), none)
			}
		}
	}
}

// P17.1: with a worker that does it, of each Op.
func TestToldByAWorker(t *testing.T) {
	s := built(t, tumbling(1, 1, 1))
	of := func(count int, sum int64) api.Pane {
		return api.Pane{Key: "a", Span: api.Span{Start: 0, End: 10}, Agg: api.Agg{Count: count, Sum: sum, Min: 5, Max: sum - 5}}
	}
	rows := []struct {
		y    api.Call
		want api.Reply
	}{
		{api.Call{Op: api.Ingest, Key: "a", Time: 3, Value: 5}, api.Reply{}},
		{api.Call{Op: api.TryIngest, Key: "a", Time: 9, Value: 6}, api.Reply{}},
		{api.Call{Op: api.QueryKey, Key: "a"}, api.Reply{Panes: []api.Pane{of(2, 11)}}},
		{api.Call{Op: api.QueryPane, Key: "a", End: 10}, api.Reply{Panes: []api.Pane{of(2, 11)}}},
		{api.Call{Op: api.QueryPane, Key: "a", End: 9}, api.Reply{}},
		{api.Call{Op: api.QueryKey, Key: "b"}, api.Reply{}},
		{api.Call{Op: api.Ingest, Key: "a", Time: math.MaxInt64}, api.Reply{Code: api.BadTime}},
	}
	for _, row := range rows {
		x := s.client(4, row.y)
		x.steps(begins, none)
		x.works(0)
		x.steps(endsWith(row.want), none)
	}
	s.Ctl.Raise(10)
	x := s.client(4, rows[0].y, rows[2].y)
	x.steps(begins)
	x.works(0)
	x.steps(endsWith(api.Reply{Code: api.Late}), begins)
	s.Ctl.Shut()
	x.works(0)
	x.steps(endsWith(api.Reply{Code: api.Closed}), none)
}

// movedOnce is a client whose Ask of group 0 was told to be Moved, of two shards' mailboxes with room for two; its group is
// the second shard's now.
func movedOnce(t *testing.T, op int) (*site, *twin) {
	t.Helper()
	s := built(t, tumbling(2, 2, 2))
	y := ofKey(op, key(2, 0, 0))
	x := s.client(4, y)
	x.steps(begins)
	s.freeze(0)
	s.publish(0, 1)
	x.did(shard.Did{Msg: s.takes(0, asked(4, y)), Moved: true}, true)
	return s, x
}

// P17.1: told Moved, its Ask is put anew in the same step, to the shard that owns the group now; it doesn't begin twice.
func TestMoved(t *testing.T) {
	for _, op := range keyedOps() {
		s, x := movedOnce(t, op)
		s.mail(0, 0)
		x.steps(goes, none, none)
		s.mail(0, 1)
		m := s.takes(1, asked(4, x.calls[0]))
		x.did(shard.Did{Msg: m, Reply: api.Reply{Code: api.Late}}, true)
		x.steps(endsWith(api.Reply{Code: api.Late}), none)
	}
}

// P17.1: what is told beside Moved plays no part.
func TestMovedWithAReply(t *testing.T) {
	for _, op := range keyedOps() {
		s := built(t, tumbling(1, 1, 2))
		y := ofKey(op, "a")
		x := s.client(4, y)
		x.steps(begins)
		x.did(shard.Did{Msg: s.takes(0, asked(4, y)), Moved: true, Reply: api.Reply{Code: api.Bad, Panes: []api.Pane{{Key: "a"}}}}, true)
		x.steps(goes, none)
		x.did(shard.Did{Msg: s.takes(0, asked(4, y))}, true)
		x.steps(ends, none)
	}
}

// P17.1: told Moved, and the mailbox is full: of a TryIngest Full; of others it took note, and then nothing, till there is
// room.
func TestMovedToAFullMailbox(t *testing.T) {
	for _, op := range keyedOps() {
		s, x := movedOnce(t, op)
		s.fill(1)
		if op == api.TryIngest {
			x.steps(later(api.Full), none)
			s.mail(0, 2)
			continue
		}
		x.steps(goes, none, none)
		s.mail(0, 2)
		s.free(1)
		x.steps(goes, none)
		s.mail(0, 2)
		s.free(1)
		s.takes(1, asked(4, x.calls[0]))
	}
}

// P17.1: told Moved, and the mailbox, or the control, is closed.
func TestMovedToWhatIsClosed(t *testing.T) {
	for _, op := range keyedOps() {
		for n := range 4 {
			s, x := movedOnce(t, op)
			switch n {
			case 0:
				s.Boxes[1].Close()
			case 1:
				s.fill(1)
				s.Boxes[1].Close()
			case 2:
				s.Ctl.Shut()
			case 3:
				s.Ctl.Shut()
				s.freeze(0)
			}
			was := s.stands()
			x.steps(later(api.Closed), none)
			if is := s.stands(); is != was {
				t.Fatalf("all stands as %+v; it stood as %+v", is, was)
			}
		}
	}
}

// P17.1: told Moved while the group is moving: it took note, and then nothing, till it is published.
func TestMovedWhileTheGroupIsMoving(t *testing.T) {
	for _, op := range keyedOps() {
		s, x := movedOnce(t, op)
		s.freeze(0)
		s.fill(1)
		x.steps(goes, none, none)
		s.publish(0, 0)
		x.steps(goes, none)
		s.mail(1, 2)
		s.takes(0, asked(4, x.calls[0]))
	}
}

// P17.1: Moved many times over, with other steps between.
func TestMovedManyTimes(t *testing.T) {
	for _, op := range keyedOps() {
		s := built(t, tumbling(3, 2, 1))
		y := ofKey(op, key(2, 1, 0))
		x := s.client(4, y, y)
		x.steps(begins, none)
		for n := range 30 {
			at := (n + 1) % 3
			d := shard.Did{Msg: s.takes(at, asked(4, y)), Moved: true}
			s.freeze(1)
			if n%2 == 0 {
				s.publish(1, (n+2)%3)
				x.did(d, true)
				x.steps(goes, none)
			} else {
				x.did(d, true)
				x.steps(goes, none)
				s.publish(1, (n+2)%3)
				x.steps(goes, none)
			}
		}
		x.did(shard.Did{Msg: s.takes(1, asked(4, y)), Reply: api.Reply{Code: api.Late}}, true)
		x.steps(endsWith(api.Reply{Code: api.Late}), begins)
	}
}

// notAwaited are things done that a client, of that number, with an Ask of y, doesn't await, but for that Ask itself.
func notAwaited(number int, y api.Call) []shard.Did {
	var list []shard.Did
	for _, n := range edges() {
		if n != number {
			list = append(list, shard.Did{Msg: asked(n, y)})
		}
	}
	for kind := range 9 {
		if kind != shard.Ask {
			for _, m := range []shard.Msg{asked(number, y), {Group: 1}, {}} {
				m.Kind = kind
				list = append(list, shard.Did{Msg: m})
			}
		}
	}
	for _, kind := range []int{-1, math.MinInt, 1<<8 + 1, 1<<32 + 1, math.MaxInt} {
		m := asked(number, y)
		m.Kind = kind
		list = append(list, shard.Did{Msg: m})
	}
	for _, other := range []api.Call{
		{}, {Op: y.Op}, {Op: y.Op + 1, Key: y.Key, Time: y.Time, End: y.End, Value: y.Value}, ofKey(y.Op, y.Key+"a"),
		{Op: y.Op, Key: y.Key, Time: y.Time + 1, End: y.End, Value: y.Value}, {Op: y.Op, Key: y.Key, Time: y.Time, End: y.End + 1, Value: y.Value},
		{Op: y.Op, Key: y.Key, Time: y.Time, End: y.End, Value: y.Value + 1},
	} {
		list = append(list, shard.Did{Msg: asked(number, other)})
	}
	for i := range list {
		list[i].Reply = api.Reply{Code: api.BadTime, Panes: []api.Pane{{Key: "x"}}}
		list[i].Moved = i%2 == 0
		list[i].State = new(group.Group)
	}
	return append(list, shard.Did{})
}

// P17.1: Did of what a keyed call doesn't await is false, and nothing changes, at each of its states.
func TestDidOfWhatAKeyedCallDoesNotAwait(t *testing.T) {
	for _, op := range keyedOps() {
		for _, number := range []int{0, 4} {
			s := built(t, tumbling(2, 3, 2))
			y := ofKey(op, key(3, 1, 0))
			own := shard.Did{Msg: asked(number, y), Reply: api.Reply{Code: api.BadTime}}
			x := s.client(number, y)
			not := func(more ...shard.Did) {
				t.Helper()
				for _, d := range append(notAwaited(number, y), more...) {
					was := s.stands()
					x.did(d, false)
					if is := s.stands(); is != was {
						t.Fatalf("Did(%+v) changed %+v to %+v", d, was, is)
					}
				}
			}
			moved := own
			moved.Moved = true
			not(own, moved) // ahead of the first step
			s.freeze(1)
			x.steps(begins)
			not(own, moved) // begun, and waiting
			s.publish(1, 1)
			x.steps(goes)
			not() // awaiting
			x.steps(none)
			x.did(moved, true)
			not(own, moved) // told Moved
			s.takes(1, asked(number, y))
			x.steps(goes)
			not()
			x.did(shard.Did{Msg: asked(number, y), Reply: api.Reply{Code: api.Late}}, true)
			not(own, moved) // told the reply
			x.steps(endsWith(api.Reply{Code: api.Late}))
			not(own, moved) // over
			x.steps(none)
		}
	}
}

// P17.1: what the Ask of a call that is done came to isn't what the next call awaits.
func TestDidOfTheCallBefore(t *testing.T) {
	s := built(t, tumbling(1, 1, 2))
	y, z := ofKey(api.Ingest, "a"), ofKey(api.QueryKey, "a")
	x := s.client(4, y, z)
	x.steps(begins)
	d := x.works(0)
	x.did(d, false)
	x.steps(ends)
	x.did(d, false)
	x.steps(begins)
	x.did(d, false)
	x.steps(none)
	now := x.works(0)
	x.did(d, false)
	x.steps(endsWith(now.Reply), none)
}
