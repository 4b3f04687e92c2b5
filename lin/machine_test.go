package lin

import (
	"math/rand"
	"slices"
	"testing"

	"easel/api"
	"easel/model"
	"easel/oper"
)

// machine is one of so many clients at most, whose calls are drawn.
func machine(t *testing.T, r *rand.Rand, clients int) (api.Config, *oper.Machine) {
	t.Helper()
	c := drawn(r)
	closes := r.Intn(3)
	lists := make([][]api.Call, clients)
	for n := range lists {
		for range 1 + r.Intn(8) {
			lists[n] = append(lists[n], drawnCall(r, closes))
		}
	}
	m, err := oper.New(c, lists)
	if err != nil {
		t.Fatal(err)
	}
	return c, m
}

// T1: behind each pick a machine's events are a history of the model's; the model has its watermark, and once all is over what
// went out of each key.
func TestMachines(t *testing.T) {
	var codes [7]int
	for clients := range api.MaxClients + 1 {
		for seed := range int64(120) {
			r := rand.New(rand.NewSource(seed))
			c, m := machine(t, r, clients)
			lazy := r.Intn(4) // how seldom a worker is picked: so that mailboxes are full
			for i := 0; i < 200 || !m.Over(); i++ {
				n := r.Intn(m.Threads())
				for range lazy {
					if n < c.Shards {
						n = r.Intn(m.Threads())
					}
				}
				if m.Pick(n) {
					behindPick(t, c, m)
				}
			}
			one := behindPick(t, c, m)
			sameOut(t, m, one)
			for _, e := range m.Events() {
				codes[e.Reply.Code]++
			}
		}
	}
	for code, n := range codes {
		if n < 30 {
			t.Errorf("%d calls came to %d (of all: %v)", n, code, codes)
		}
	}
}

// behindPick is the model of a machine's events.
func behindPick(t *testing.T, c api.Config, m *oper.Machine) *model.Model {
	t.Helper()
	one := checked(t, c, m.Events())
	if one.Mark() != m.Mark() {
		t.Fatalf("of %+v Mark() = %d; the machine's is %d", m.Events(), one.Mark(), m.Mark())
	}
	return one
}

// sameOut holds that of each key as much went out here and there, in the same order, and that as many panes are left.
func sameOut(t *testing.T, m *oper.Machine, one *model.Model) {
	t.Helper()
	panes := 0
	for _, key := range append(keys(), "") {
		other := func(p api.Pane) bool { return p.Key != key }
		got, want := slices.DeleteFunc(m.Out(), other), slices.DeleteFunc(one.Out(), other)
		if !slices.Equal(got, want) {
			t.Fatalf("of %q there went out %+v; of the model %+v", key, got, want)
		}
		panes += len(one.Panes(key))
	}
	if panes != m.Panes() {
		t.Fatalf("the machine has %d panes, the model %d", m.Panes(), panes)
	}
}

// P20.1, P20.2: a machine's history with one reply turned, or two Points changed, or one event that is taken to be done, by the
// words.
func TestMachinesTurned(t *testing.T) {
	count := tally{}
	for seed := range int64(500) {
		r := rand.New(rand.NewSource(seed))
		c, m := machine(t, r, 1+r.Intn(api.MaxClients))
		for range r.Intn(150) {
			m.Pick(r.Intn(m.Threads()))
		}
		if len(m.Events()) == 0 {
			continue
		}
		for range 10 {
			l := m.Events()
			i := r.Intn(len(l))
			switch r.Intn(3) {
			case 0:
				list := unlike(l[i].Reply)
				l[i].Reply = list[r.Intn(len(list))]
			case 1:
				if l[i].Point == 0 {
					l[i].Point, l[i].Reply.Code = 1000, r.Intn(3)
				}
			case 2:
				l = turn(r, c, l)
			}
			count[byWords(t, c, l)]++
		}
	}
	count.has(t, 100, nil, api.ErrArg, api.ErrOrder)
}
