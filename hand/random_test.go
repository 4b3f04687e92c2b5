package hand

import (
	"math/rand"
	"testing"

	"easel/api"
	"easel/shard"
)

// refusal is the error that New tells by the words, or 0.
func (b *board) refusal(n, to int) api.Code {
	switch {
	case n < 0 || n >= len(b.owns):
		return api.ErrNone
	case b.owns[n].Moving:
		return api.ErrBusy
	case to < 0 || to >= b.shards:
		return api.ErrArg
	}
	return 0
}

// drawn is a number below n, or, seldom, any.
func drawn(r *rand.Rand, n int) int {
	if r.Intn(12) == 0 {
		return edges()[r.Intn(len(edges()))]
	}
	return r.Intn(n)
}

// drawnDid is what some worker did, mostly of one of a table's groups.
func drawnDid(t *testing.T, r *rand.Rand, groups int) shard.Did {
	kind := shard.Give + r.Intn(2)
	if r.Intn(8) == 0 {
		kind = r.Intn(9) - 3
	}
	d := shard.Did{Msg: shard.Msg{Kind: kind, From: r.Intn(9), Group: drawn(r, groups)}, Moved: r.Intn(9) == 0}
	if r.Intn(4) > 0 {
		d.State = state(t, r.Intn(3))
	}
	return d
}

// run is random steps of handoffs of one table.
type run struct {
	*board
	r       *rand.Rand
	list    []*twin
	overs   int
	refused map[api.Code]int
}

func (x *run) begin() {
	x.t.Helper()
	n, to := drawn(x.r, len(x.owns)), drawn(x.r, x.shards)
	if want := x.refusal(n, to); want != 0 {
		x.refuses(n, to, want)
		x.refused[want]++
		return
	}
	x.list = append(x.list, x.begins(n, to))
}

func (x *run) step() {
	x.t.Helper()
	h := x.list[x.r.Intn(len(x.list))]
	was := h.had
	switch x.r.Intn(5) {
	case 0, 1:
		h.sent()
	case 2:
		h.did(gave(h.n, state(x.t, 1)))
	case 3:
		h.did(had(h.n))
	case 4:
		d := drawnDid(x.t, x.r, len(x.owns))
		for _, each := range x.list {
			each.did(d)
		}
	}
	if h.had && !was {
		h.ends(4, nil)
		x.overs++
	}
}

// P15.1, P15.2, P1: random steps of handoffs of one table, in any order, come to what the words say.
func TestRandomSteps(t *testing.T) {
	overs, refused, seed := 0, map[api.Code]int{}, int64(0)
	defer func() {
		if t.Failed() {
			t.Logf("seed %d", seed)
		}
	}()
	for ; seed < 600; seed++ {
		r := rand.New(rand.NewSource(seed))
		x := &run{board: laid(t, 1+r.Intn(api.MaxGroups), 1+r.Intn(api.MaxShards)), r: r, refused: refused}
		for range 150 {
			if len(x.list) == 0 || r.Intn(8) == 0 {
				x.begin()
			} else {
				x.step()
			}
		}
		for _, h := range x.list {
			h.stands()
		}
		overs += x.overs
	}
	if overs < 1000 || refused[api.ErrNone] < 100 || refused[api.ErrBusy] < 100 || refused[api.ErrArg] < 100 {
		t.Errorf("%d handoffs were over; errors: %v", overs, refused)
	}
}
