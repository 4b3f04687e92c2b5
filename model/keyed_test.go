package model

import (
	"fmt"
	"math"
	"math/rand"
	"slices"
	"testing"

	"easel/api"
	"easel/group"
)

func grouped(t *testing.T, c api.Config) *group.Group {
	t.Helper()
	g, err := group.New(c)
	if err != nil {
		t.Fatal(err)
	}
	return g
}

// keyed does a keyed call on a group, and holds what it tells; then it writes over that.
func keyed(t *testing.T, g *group.Group, x api.Call, mark int64, want api.Reply, out ...api.Pane) {
	t.Helper()
	before := x
	got, gotOut := Keyed(g, x, mark)
	if got.Code != want.Code || !slices.Equal(got.Panes, want.Panes) || !slices.Equal(gotOut, out) {
		t.Errorf("Keyed(%+v, %d) = %+v, %+v; want %+v, %+v", x, mark, got, gotOut, want, out)
	}
	if x != before {
		t.Errorf("Keyed(%+v, %d) made the call %+v", before, mark, x)
	}
	spoil(got.Panes)
	spoil(gotOut)
}

func told(code int, list ...api.Pane) api.Reply { return api.Reply{Code: code, Panes: list} }

// holds holds all that a group has.
func holds(t *testing.T, g *group.Group, there ...api.Pane) {
	t.Helper()
	if g.Len() != len(there) || g.Due() != len(there) {
		t.Errorf("the group has %d panes, %d timers; want %d", g.Len(), g.Due(), len(there))
	}
	for _, key := range names() {
		if got, want := g.Panes(key), ofKey(there, key); !slices.Equal(got, want) {
			t.Errorf("the group's panes of %q are %+v; want %+v", key, got, want)
		}
	}
}

// fill makes a group that wasn't settled: of Tumbling 10, with the panes that all tells.
func fill(t *testing.T) *group.Group {
	t.Helper()
	g := grouped(t, tumbling(10, 0))
	g.Take("b", 25, 7, least)
	g.Take("a", 12, -2, least)
	g.Take("b", 3, 1, least)
	g.Take("a", 3, 5, least)
	return g
}

// all are those panes, in the order in which they go out.
func all() []api.Pane {
	return panes(of("a", 0, 10, 5), of("b", 0, 10, 1), of("a", 10, 20, -2), of("b", 20, 30, 7))
}

// marks tell how many of all are over at each watermark.
func marks() map[int64]int {
	return map[int64]int{least: 0, -1: 0, 9: 0, 10: 2, 11: 2, 19: 2, 20: 3, 29: 3, 30: 4, most - 1: 4, most: 4}
}

// P13.1: what is over goes out ahead of a query, and isn't in its answer.
func TestKeyedQueries(t *testing.T) {
	for mark, n := range marks() {
		out, there := all()[:n], all()[n:]
		for _, key := range names() {
			g := fill(t)
			keyed(t, g, queryKey(key), mark, told(api.OK, ofKey(there, key)...), out...)
			holds(t, g, there...)
			keyed(t, g, queryKey(key), mark, told(api.OK, ofKey(there, key)...))
			holds(t, g, there...)
			for start := int64(-10); start <= 30; start += 5 {
				for end := start + 5; end <= 40; end += 5 {
					g := fill(t)
					list := slices.DeleteFunc(ofKey(there, key), func(p api.Pane) bool { return p.Span != api.Span{Start: start, End: end} })
					keyed(t, g, queryPane(key, start, end), mark, told(api.OK, list...), out...)
					holds(t, g, there...)
					keyed(t, g, queryPane(key, start, end), mark, told(api.OK, list...))
				}
			}
		}
	}
}

// P13.1: x is none of the four: all of the key's panes are told, whatever window it names, and it puts and closes nothing.
func TestKeyedOfOtherOps(t *testing.T) {
	for _, op := range ops() {
		if op == 1 || op == 2 || op == 4 || op == 5 {
			continue
		}
		for mark, n := range marks() {
			for _, key := range names() {
				out, there := all()[:n], all()[n:]
				for _, w := range [][2]int64{{0, 10}, {20, 30}, {25, most}, {10, 0}, {most, least}} {
					g := fill(t)
					x := api.Call{Op: op, Key: key, Time: w[0], End: w[1], Value: 9, Group: 2, Shard: 1}
					for range 2 {
						keyed(t, g, x, mark, told(api.OK, ofKey(there, key)...), out...)
						holds(t, g, there...)
						out = nil
					}
					out = all()[:n]
				}
			}
		}
	}
}

// P13.1: what is over goes out ahead of a record, that is late, of a bad time, or OK.
func TestKeyedRecords(t *testing.T) {
	for _, put := range puts() {
		for mark, n := range marks() {
			out, there := all()[:n], all()[n:]
			g := fill(t)
			keyed(t, g, put("a", most, 1), mark, told(api.BadTime), out...)
			holds(t, g, there...)
			keyed(t, g, put("a", least, 1), mark, told(api.BadTime))
			holds(t, g, there...)
			for at, row := range map[int64]struct {
				over int64
				key  string
			}{-1: {0, "a"}, 0: {10, "a"}, 9: {10, "b"}, 10: {20, "c"}, 25: {30, "b"}, 30: {40, "ab"}} {
				g, code := fill(t), api.OK
				if row.over <= mark {
					code = api.Late
				}
				keyed(t, g, put(row.key, at, 8), mark, told(code), out...)
				if code == api.Late {
					holds(t, g, there...)
					continue
				}
				list, is := g.Panes(row.key), false
				for _, p := range list {
					was := slices.IndexFunc(there, func(q api.Pane) bool { return q.Key == p.Key && q.Span == p.Span })
					if was < 0 {
						is = p == of(row.key, row.over-10, row.over, 8)
					} else if p != there[was] {
						is = p == of(row.key, row.over-10, row.over, there[was].Agg.Sum, 8)
					}
				}
				if !is || g.Len() > len(there)+1 {
					t.Errorf("at %d, behind a record of %q at %d, its panes are %+v", mark, row.key, at, list)
				}
			}
		}
	}
}

// P13.1: of a group that was settled later on, a watermark below that is taken as it is.
func TestKeyedAtALowerWatermark(t *testing.T) {
	for _, put := range puts() {
		g := fill(t)
		g.Settle(20)
		keyed(t, g, queryKey("b"), 5, told(api.OK, of("b", 20, 30, 7)))
		keyed(t, g, queryPane("a", 0, 10), 5, told(api.OK))
		keyed(t, g, put("a", 4, 9), 10, told(api.Late))
		keyed(t, g, put("a", 4, 9), 9, told(api.OK))
		holds(t, g, of("a", 0, 10, 9), of("b", 20, 30, 7))
		keyed(t, g, queryPane("a", 0, 10), 9, told(api.OK, of("a", 0, 10, 9)))
		keyed(t, g, put("b", 29, 1), least, told(api.OK))
		keyed(t, g, queryKey("a"), 10, told(api.OK), of("a", 0, 10, 9))
		keyed(t, g, queryKey("b"), 29, told(api.OK, of("b", 20, 30, 7, 1)))
		keyed(t, g, queryKey("b"), most, told(api.OK), of("b", 20, 30, 7, 1))
		holds(t, g)
	}
}

// P13.1: the lateness is the group's own, of each kind of windows; so is which windows a record has.
func TestKeyedOfEachKind(t *testing.T) {
	for _, c := range kinds() {
		for _, x := range []api.Call{queryKey("a"), queryPane("a", 0, 10), ingest("b", 60, 1), tryIngest("b", 60, 1), ingest("a", -5, 1)} {
			for mark, n := range map[int64]int{least: 0, 14: 0, 15: 1, most: 1} {
				g := grouped(t, c)
				g.Take("a", 0, 3, 10)
				there := g.Panes("a")
				there = there[len(there)-1:]
				g.Settle(14)
				holds(t, g, there...)
				reply, out := Keyed(g, x, mark)
				if !slices.Equal(out, there[:n]) {
					t.Errorf("%+v: Keyed(%+v, %d) = %+v, %+v", c, x, mark, reply, out)
				}
				if query := x.Op == 4 || x.Op == 5; query && !slices.Equal(reply.Panes, there[n:]) || !query && len(reply.Panes) > 0 {
					t.Errorf("%+v: Keyed(%+v, %d) = %+v, %+v", c, x, mark, reply, out)
				}
			}
		}
	}
}

// P13.1: both ends of what a watermark may be, with windows at both ends.
func TestKeyedAtTheEnds(t *testing.T) {
	g := grouped(t, tumbling(1, 0))
	keyed(t, g, ingest("a", least, 1), least, told(api.OK))
	keyed(t, g, tryIngest("a", most-1, 2), least, told(api.OK))
	first, last := of("a", least, least+1, 1), of("a", most-1, most, 2)
	keyed(t, g, queryKey("a"), least, told(api.OK, first, last))
	keyed(t, g, queryPane("a", least, least+1), least, told(api.OK, first))
	keyed(t, g, queryPane("a", least, least+1), least+1, told(api.OK), first)
	keyed(t, g, queryPane("a", most-1, most), most-1, told(api.OK, last))
	keyed(t, g, queryKey("a"), most, told(api.OK), last)
	keyed(t, g, ingest("a", most-1, 2), most, told(api.Late))
	keyed(t, g, ingest("a", most, 2), most, told(api.BadTime))
	holds(t, g)
}

// P13.2: neither list shares memory with the other one, or with the group.
func TestKeyedTellsNewMemory(t *testing.T) {
	for _, x := range []api.Call{queryKey("b"), queryPane("b", 20, 30), {Op: api.Close, Key: "b"}} {
		g := fill(t)
		reply, out := Keyed(g, x, 20)
		spoil(reply.Panes)
		if !slices.Equal(out, all()[:3]) {
			t.Errorf("%+v: with the reply written over, what went out is %+v", x, out)
		}
		g = fill(t)
		reply, out = Keyed(g, x, 20)
		spoil(out)
		if !slices.Equal(reply.Panes, all()[3:]) {
			t.Errorf("%+v: with what went out written over, the reply is %+v", x, reply)
		}
		spoil(reply.Panes)
		holds(t, g, all()[3])
		keyed(t, g, x, 20, told(api.OK, all()[3]))
		reply, _ = Keyed(g, x, 20)
		g.Take("b", 26, 3, 20)
		if !slices.Equal(reply.Panes, all()[3:]) {
			t.Errorf("%+v: what was told became %+v", x, reply.Panes)
		}
		_, out = Keyed(g, ingest("b", 33, 1), 30)
		keyed(t, g, ingest("b", 35, 1), 30, told(api.OK))
		if !slices.Equal(out, panes(of("b", 20, 30, 7, 3))) {
			t.Errorf("%+v: what went out became %+v", x, out)
		}
		spoil(out)
		holds(t, g, of("b", 30, 40, 1, 1))
	}
}

// P13.1: a group that is told of the watermark by keyed calls alone tells what a model does, and what it tells goes out
// is what the model's output has more since the last one.
func TestKeyedTellsWhatDoTells(t *testing.T) {
	calls := 0
	for seed := range int64(300) {
		r := rand.New(rand.NewSource(seed))
		c := drawn(r)
		m, g, where := made(t, c), grouped(t, c), r.Intn(3)-1
		seen := 0
		for range 60 {
			x := drawnCall(r, c, where, m.Mark())
			reply := m.Do(x)
			if reply.Code == api.Bad || reply.Code == api.Closed || x.Op == api.Advance || x.Op == api.Rebalance || x.Op == api.Close {
				continue
			}
			calls++
			out := m.Out()
			keyed(t, g, x, m.Mark(), reply, out[seen:]...)
			seen = len(out)
			for _, key := range names() {
				if got, want := g.Panes(key), m.Panes(key); !slices.Equal(got, want) {
					t.Errorf("the group's panes of %q are %+v; the model's %+v", key, got, want)
				}
			}
			if t.Failed() {
				t.Fatalf("seed %d, %+v, behind %+v", seed, c, x)
			}
		}
	}
	if calls < 3000 {
		t.Errorf("%d calls alone were keyed, and done", calls)
	}
}

// P13.1: likewise of a model whose Advance is the very call ahead, at each watermark of a table.
func TestKeyedIsAnAdvanceAndDo(t *testing.T) {
	list := []api.Call{queryKey("a"), queryKey("b"), queryKey("c"), queryPane("a", 10, 20), queryPane("b", 0, 10), queryPane("b", 0, 30)}
	for _, put := range puts() {
		for at := int64(-1); at <= 31; at++ {
			list = append(list, put("a", at, 4), put("c", at, math.MaxInt64))
		}
		list = append(list, put("a", most, 4))
	}
	for _, x := range list {
		for mark, n := range marks() {
			m, g := made(t, tumbling(10, 0)), fill(t)
			for _, y := range []api.Call{ingest("b", 25, 7), ingest("a", 12, -2), tryIngest("b", 3, 1), tryIngest("a", 3, 5)} {
				does(t, m, y, api.OK)
			}
			if mark > least {
				does(t, m, advance(mark), api.OK)
			}
			keyed(t, g, x, mark, m.Do(x), all()[:n]...)
			if got := m.Out(); !slices.Equal(got, all()[:n]) {
				t.Errorf("at %d, behind %+v, Out() = %+v", mark, x, got)
			}
			if a, b := fmt.Sprint(g.Panes("a"), g.Panes("b"), g.Panes("c")), fmt.Sprint(m.Panes("a"), m.Panes("b"), m.Panes("c")); a != b {
				t.Errorf("at %d, behind %+v, the group has %s; the model %s", mark, x, a, b)
			}
		}
	}
}
