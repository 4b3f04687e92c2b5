package hand

import (
	"math"
	"testing"

	"easel/api"
	"easel/group"
	"easel/shard"
)

// others are what workers did of other messages, of that group and of others: none of them is what a handoff of it waits
// for. Those of Give and Have of the group itself are left out.
func others(n int, g *group.Group) []shard.Did {
	kinds := []int{0, 5, 6, 7, -1, -3, -4, math.MinInt, math.MaxInt}
	for k := shard.Ask; k <= shard.Have; k++ {
		kinds = append(kinds, k, 1<<8+k, 1<<16+k, 1<<32+k, -k)
	}
	list := []shard.Did{{}, {State: g}, {Moved: true}}
	for _, kind := range kinds {
		for _, of := range []int{n, n - 1, n + 1, -n - 1, 1<<8 + n, 1<<32 + n, math.MinInt, math.MaxInt} {
			if of == n && (kind == shard.Give || kind == shard.Have) {
				continue
			}
			m := shard.Msg{Kind: kind, From: n, Group: of, Call: api.Call{Op: api.Rebalance, Group: n}}
			list = append(list, shard.Did{Msg: m}, shard.Did{Msg: m, State: g})
		}
	}
	return list
}

// P15.1: at each state what isn't waited for is false, and changes nothing.
func TestDidOfWhatIsNotWaitedFor(t *testing.T) {
	for done := range 5 {
		for n := range 3 {
			g := state(t, 2)
			x := laid(t, 3, 2).begins(n, 1)
			x.upTo(done, g)
			list := others(n, state(t, 1))
			if done != 1 {
				list = append(list, gave(n, nil), gave(n, g), gave(n, state(t, 1)))
			}
			if done != 3 {
				d := had(n)
				d.State = g
				list = append(list, had(n), d)
			}
			for range 2 {
				for _, d := range list {
					x.did(d)
				}
			}
			own, _ := x.table.Of(n)
			if own.Moving == (done == 4) || x.h.Over() != (done == 4) || own.Version != done/4 {
				t.Fatalf("behind %d steps, and others: %+v, over %t", done, own, x.h.Over())
			}
			x.ends(done, g)
			if g.Len() != 2 || g.Due() != 2 {
				t.Fatalf("the state has %d panes; want 2", g.Len())
			}
		}
	}
}

// P15.1: Sent is true just where there is one to be sent, and only once.
func TestSentAtEachState(t *testing.T) {
	for done := range 5 {
		x := laid(t, 4, 3).begins(2, 1)
		g := state(t, 1)
		x.upTo(done, g)
		if _, _, is := x.h.Ask(); is != (done == 0 || done == 2) {
			t.Fatalf("behind %d steps Ask tells that there is one to be sent: %t", done, is)
		}
		for range 3 {
			x.sent() // true the first time, if at all
		}
		if done%2 == 0 && done < 4 {
			done++
		}
		x.ends(done, g)
	}
}

// P15.1: what is asked at each state, by numbers that are written out.
func TestAskAtEachState(t *testing.T) {
	g := state(t, 3)
	for n := range 16 {
		for to := range 8 {
			x := laid(t, 16, 8).begins(n, to)
			want := []shard.Msg{{Kind: 3, Group: n}, {}, {Kind: 4, Group: n, State: g}, {}, {}}
			shards := []int{n % 8, 0, to, 0, 0}
			for done := range 5 {
				for range 3 {
					s, m, is := x.h.Ask()
					if s != shards[done] || m != want[done] || is != (done == 0 || done == 2) {
						t.Fatalf("behind %d steps Ask() = %d, %+v, %t; want %d, %+v", done, s, m, is, shards[done], want[done])
					}
				}
				if done < 4 {
					x.steps(g)[done]()
				}
			}
		}
	}
}

// P15.1: the very state that was told, whatever it is, and none, if none was; the handoff leaves it as it is.
func TestTheStateThatWasTold(t *testing.T) {
	session, err := group.New(api.Config{Kind: api.Session, Gap: 7, Shards: 8, Groups: 16, Cap: 16})
	if err != nil {
		t.Fatal(err)
	}
	session.Take("a", 3, 5, 0)
	for _, g := range []*group.Group{nil, state(t, 0), state(t, 0), state(t, 4), session} {
		panes := -1
		if g != nil {
			panes = g.Len()
		}
		x := laid(t, 2, 2).begins(1, 0)
		x.upTo(2, g)
		if _, m, is := x.h.Ask(); !is || m.State != g {
			t.Fatalf("Ask() = %+v, %t; want the state %p", m, is, g)
		}
		x.ends(2, g)
		if g != nil && (g.Len() != panes || g.Due() != panes) {
			t.Fatalf("the state has %d panes; want %d", g.Len(), panes)
		}
	}
}

// P15.1: what else stands in what was done plays no part.
func TestWhatElseStandsInADid(t *testing.T) {
	g, other := state(t, 1), state(t, 2)
	for _, told := range []*group.Group{nil, g} {
		x := laid(t, 3, 2).begins(1, 0)
		x.sent()
		d := shard.Did{
			Msg:   shard.Msg{Kind: shard.Give, From: 9, Call: api.Call{Op: api.Close, Key: "a", Group: 2, Shard: 1}, Group: 1, State: other},
			Moved: true,
			Reply: api.Reply{Code: api.Closed, Panes: []api.Pane{{Key: "a"}}},
			Out:   []api.Pane{{Key: "b"}},
			State: told,
		}
		x.did(d)
		x.sent()
		d.Msg.Kind, d.State = shard.Have, other
		x.did(d)
		if !x.h.Over() || d.Reply.Panes[0].Key != "a" || d.Out[0].Key != "b" || other.Len() != 2 {
			t.Fatalf("over: %t; what was handed in became %+v", x.h.Over(), d)
		}
	}
}

// P15.1: a message that was asked for is new: with it written over, the next one is the same.
func TestWhatIsAskedForIsNew(t *testing.T) {
	x := laid(t, 3, 2).begins(1, 0)
	for done, step := range x.steps(state(t, 1)) {
		_, m, _ := x.h.Ask()
		m.Kind, m.Group, m.State = m.Kind+1, 77, nil
		x.stands()
		step()
		if over := x.h.Over(); over != (done == 3) {
			t.Fatalf("behind %d steps Over() = %t", done+1, over)
		}
	}
}

// P15.1: a handoff in each order of seven steps, right and wrong ones, against the words.
func TestEachOrderOfSteps(t *testing.T) {
	const length, kinds = 7, 5
	g := state(t, 1)
	overs := 0
	all := 1
	for range length {
		all *= kinds
	}
	for code := range all {
		x := laid(t, 2, 2).begins(0, 1)
		for rest, i := code, 0; i < length; rest, i = rest/kinds, i+1 {
			switch rest % kinds {
			case 0:
				x.sent()
			case 1:
				x.did(gave(0, g))
			case 2:
				x.did(had(0))
			case 3:
				x.did(gave(0, nil))
			case 4:
				x.did(had(1))
			}
		}
		if x.h.Over() {
			overs++
		}
	}
	if overs == 0 || overs == all {
		t.Fatalf("of %d orders %d were over", all, overs)
	}
}

// P15.1: handoffs of one table side by side, of different groups: none takes what another one waits for.
func TestSideBySide(t *testing.T) {
	for _, rising := range []bool{true, false} {
		b := laid(t, 6, 3)
		var list []*twin
		for n := range 6 {
			list = append(list, b.begins(n, (n+1+n/3)%3))
		}
		for done := range 4 {
			for i := range list {
				if !rising {
					i = len(list) - 1 - i
				}
				x := list[i]
				for _, other := range list {
					if other != x {
						other.did(gave(x.n, state(t, 1)))
						other.did(had(x.n))
					}
				}
				x.steps(state(t, x.n))[done]()
				for _, other := range list {
					other.stands()
				}
			}
		}
		for n := range 6 {
			if own, _ := b.table.Of(n); own.Moving || own.Version != 1 || own.Shard != (n+1+n/3)%3 {
				t.Fatalf("Of(%d) = %+v", n, own)
			}
		}
	}
}

// P15.1: one behind the other of one group: each begins where the one ahead of it ended; versions rise by one each, and
// what is over takes no part any more.
func TestOneBehindTheOther(t *testing.T) {
	for shards := 1; shards <= api.MaxShards; shards++ {
		b := laid(t, 4, shards)
		var past []*twin
		for round := 1; round <= 12; round++ {
			to := round * round % shards
			x := b.begins(3, to)
			for done, step := range x.steps(state(t, round)) {
				for _, old := range past {
					if old.h.Sent() || old.h.Did(gave(3, nil)) || old.h.Did(had(3)) || !old.h.Over() {
						t.Fatalf("what was over took part in round %d", round)
					}
					old.stands()
				}
				step()
				if own, _ := b.table.Of(3); own.Version != round-1+(done+1)/4 || own.Moving == (done == 3) {
					t.Fatalf("round %d, behind %d steps: %+v", round, done+1, own)
				}
			}
			past = append(past, x)
		}
	}
}

// P15.1: of two handoffs that both wait for a Give, each takes its own group's state, whichever is told first.
func TestStatesAreNotMixedUp(t *testing.T) {
	b := laid(t, 2, 2)
	one, two := b.begins(0, 1), b.begins(1, 0)
	var list []*group.Group
	for _, x := range []*twin{one, two} {
		list = append(list, state(t, x.n))
		x.sent()
	}
	for n := range 2 {
		for _, x := range []*twin{two, one} {
			x.did(gave(n, list[n]))
		}
	}
	if _, m, _ := one.h.Ask(); m.State != list[0] {
		t.Error("group 0 goes with another state")
	}
	if _, m, _ := two.h.Ask(); m.State != list[1] {
		t.Error("group 1 goes with another state")
	}
}
