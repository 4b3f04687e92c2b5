package hist

import (
	"math/rand"
	"slices"
	"strconv"
	"testing"

	"easel/api"
	"easel/oper"
)

// drawnMachine is a machine of small numbers, whose clients have calls of each Op, and some that may not be.
func drawnMachine(t *testing.T, r *rand.Rand) *oper.Machine {
	t.Helper()
	c := api.Config{Kind: r.Intn(3), Size: 10, Slide: 5, Gap: 4, Late: r.Int63n(3), Shards: 1 + r.Intn(3), Groups: 1 + r.Intn(4), Cap: 1 + r.Intn(3)}
	lists := make([][]api.Call, r.Intn(api.MaxClients+1))
	for n := range lists {
		for range r.Intn(7) {
			x := api.Call{Op: 1 + r.Intn(6), Key: strconv.Itoa(r.Intn(4)), Time: r.Int63n(40), Group: r.Intn(5), Shard: r.Intn(4)}
			x.End = x.Time + r.Int63n(11)
			if r.Intn(30) == 0 {
				x.Op = api.Close
			}
			lists[n] = append(lists[n], x)
		}
	}
	m, err := oper.New(c, lists)
	if err != nil {
		t.Fatal(err)
	}
	return m
}

// P19.1, P19.3: behind each pick of a machine its events are fine; those that had their point stand in the order in which they
// had it, and a later one stands behind them.
func TestMachines(t *testing.T) {
	pairs, whole, parts := 0, 0, 0
	for seed := range int64(400) {
		r := rand.New(rand.NewSource(seed))
		m := drawnMachine(t, r)
		var before []int
		picks := r.Intn(150)
		for i := 0; i < picks || !m.Over(); i++ {
			m.Pick(r.Intn(m.Threads()))
			l := m.Events()
			if !byWords(t, l) {
				t.Fatalf("seed %d: %v isn't fine", seed, numbers(l))
			}
			pairs += standsAhead(t, l)
			order := Order(l)
			if len(order) > len(before)+1 || len(order) < len(before) || !slices.Equal(order[:len(before)], before) {
				t.Fatalf("seed %d: the order of %v is %v; it was %v", seed, numbers(l), order, before)
			}
			before = order
			if len(order) < len(l) {
				parts++
			}
		}
		if len(before) != len(m.Events()) {
			t.Fatalf("seed %d: all is over, and of %d events the order is %v", seed, len(m.Events()), before)
		}
		if len(before) > 5 {
			whole++
		}
	}
	if pairs < 10000 || whole < 100 || parts < 1000 {
		t.Errorf("too little came up: %d pairs, %d whole histories, %d parts", pairs, whole, parts)
	}
}

// P19.1: a machine's history isn't fine, once one thing of one event is turned.
func TestMachinesTurned(t *testing.T) {
	for seed := range int64(60) {
		r := rand.New(rand.NewSource(seed))
		m := drawnMachine(t, r)
		for !m.Over() {
			m.Pick(r.Intn(m.Threads()))
		}
		for i, e := range m.Events() {
			for k, to := range []api.Event{
				at(-1, e.N, e.Begin, e.Point, e.End), at(e.Client, e.N+1, e.Begin, e.Point, e.End), at(e.Client, e.N-1, e.Begin, e.Point, e.End),
				at(e.Client, e.N, 0, e.Point, e.End), at(e.Client, e.N, e.Point+1, e.Point, e.End), at(e.Client, e.N, e.Begin, 0, e.End),
				at(e.Client, e.N, e.Begin, e.Begin-1, e.End), at(e.Client, e.N, e.Begin, e.End+1, e.End), at(e.Client, e.N, e.Begin, e.Point, e.Point-1),
				at(e.Client, e.N, e.Begin, e.Point, -1),
			} {
				l := m.Events()
				l[i] = to
				// An End of 0 is none, which a last one may have.
				last := !slices.ContainsFunc(l, func(other api.Event) bool { return other.Client == e.Client && other.N == e.N+1 })
				fine(t, k == 8 && e.Point == 1 && last, l...)
			}
		}
	}
}
