package group

import (
	"bytes"
	"errors"
	"math"
	"math/big"
	"math/bits"
	"math/rand"
	"slices"
	"strings"
	"testing"

	"easel/api"
	"easel/timer"
)

const (
	least = math.MinInt64
	most  = math.MaxInt64
)

func tumbling(size, late int64) api.Config {
	return api.Config{Kind: api.Tumbling, Size: size, Late: late, Shards: 2, Groups: 4, Cap: 8}
}

func sliding(size, slide, late int64) api.Config {
	return api.Config{Kind: api.Sliding, Size: size, Slide: slide, Late: late, Shards: 2, Groups: 4, Cap: 8}
}

func session(gap, late int64) api.Config {
	return api.Config{Kind: api.Session, Gap: gap, Late: late, Shards: 2, Groups: 4, Cap: 8}
}

func made(t *testing.T, c api.Config) *Group {
	t.Helper()
	g, err := New(c)
	if err != nil || g == nil {
		t.Fatalf("New(%+v) = %v, %v", c, g, err)
	}
	return g
}

// of is a pane of a key's window that has these values.
func of(key string, start, end int64, values ...int64) api.Pane {
	a := api.Agg{Count: len(values), Min: slices.Min(values), Max: slices.Max(values)}
	for _, v := range values {
		a.Sum += v
	}
	return api.Pane{Key: key, Span: api.Span{Start: start, End: end}, Agg: a}
}

// takes takes one record, and holds the answer against a code and what is to go out.
func takes(t *testing.T, g *Group, key string, at, v, mark int64, code int, out ...api.Pane) {
	t.Helper()
	if gotCode, got := g.Take(key, at, v, mark); gotCode != code || !slices.Equal(got, out) {
		t.Errorf("Take(%q, %d, %d, %d) = %d, %v; want %d, %v", key, at, v, mark, gotCode, got, code, out)
	}
}

func settles(t *testing.T, g *Group, mark int64, out ...api.Pane) {
	t.Helper()
	if got := g.Settle(mark); !slices.Equal(got, out) {
		t.Errorf("Settle(%d) = %v; want %v", mark, got, out)
	}
}

// holds asks all that changes nothing. What is wanted stands by rising keys, then by rising windows.
func holds(t *testing.T, g *Group, want ...api.Pane) {
	t.Helper()
	var keys []string
	var due []timer.Timer
	for _, p := range want {
		keys = append(keys, p.Key)
		due = append(due, timer.Timer{Key: p.Key, Span: p.Span})
	}
	keys = slices.Compact(keys)
	if got := g.Keys(); !slices.Equal(got, keys) {
		t.Errorf("Keys() = %q; want %q", got, keys)
	}
	for _, key := range append(keys, "no such key") {
		list := slices.DeleteFunc(slices.Clone(want), func(p api.Pane) bool { return p.Key != key })
		if got := g.Panes(key); !slices.Equal(got, list) {
			t.Errorf("Panes(%q) = %v; want %v", key, got, list)
		}
	}
	if g.Len() != len(want) || g.Due() != len(want) {
		t.Errorf("Len() = %d, Due() = %d; want %d", g.Len(), g.Due(), len(want))
	}
	slices.SortFunc(due, compare)
	if got := timersOf(g); !slices.Equal(got, due) {
		t.Errorf("its timers are %v; want %v", got, due)
	}
}

// timersOf takes out all timers, at a lateness by which each of them is over, and puts them back.
func timersOf(g *Group) []timer.Timer {
	var list []timer.Timer
	for x, is := g.due.Pop(least, most); is; x, is = g.due.Pop(least, most) {
		list = append(list, x)
	}
	for _, x := range list {
		g.due.Put(x)
	}
	return list
}

// compare is the order of timers once more: End, Start, the key's bytes.
func compare(a, b timer.Timer) int {
	switch {
	case a.Span.End < b.Span.End:
		return -1
	case a.Span.End > b.Span.End:
		return 1
	case a.Span.Start < b.Span.Start:
		return -1
	case a.Span.Start > b.Span.Start:
		return 1
	}
	return bytes.Compare([]byte(a.Key), []byte(b.Key))
}

// P8.1
func TestNewOfConfigsThatMayNotBe(t *testing.T) {
	changes := []struct {
		name string
		do   func(*api.Config)
	}{
		{"Kind below 0", func(c *api.Config) { c.Kind = -1 }},
		{"Kind above 2", func(c *api.Config) { c.Kind = 3 }},
		{"Late below 0", func(c *api.Config) { c.Late = -1 }},
		{"Late the least", func(c *api.Config) { c.Late = least }},
		{"no Shards", func(c *api.Config) { c.Shards = 0 }},
		{"Shards above 8", func(c *api.Config) { c.Shards = 9 }},
		{"no Groups", func(c *api.Config) { c.Groups = 0 }},
		{"Groups above 16", func(c *api.Config) { c.Groups = 17 }},
		{"no Cap", func(c *api.Config) { c.Cap = 0 }},
		{"Cap above 16", func(c *api.Config) { c.Cap = 17 }},
		{"all zero", func(c *api.Config) { *c = api.Config{} }},
		{"no Size, no Gap", func(c *api.Config) { c.Size, c.Gap = 0, 0 }},
		{"Size, Gap below 0", func(c *api.Config) { c.Size, c.Gap = -10, -10 }},
	}
	for _, kind := range kinds() {
		for _, row := range changes {
			c := kind
			row.do(&c)
			mayNotBe(t, row.name, c)
		}
	}
	mayNotBe(t, "Sliding without Slide", sliding(10, 0, 0))
	mayNotBe(t, "Sliding with Slide below 0", sliding(10, -5, 0))
	mayNotBe(t, "Sliding with Slide above Size", sliding(10, 11, 0))
	mayNotBe(t, "Sliding with 17 windows", sliding(17, 1, 0))
	mayNotBe(t, "Sliding with 17 windows, rounded up", sliding(33, 2, 0))
}

func mayNotBe(t *testing.T, name string, c api.Config) {
	t.Helper()
	g, err := New(c)
	if g != nil || !errors.Is(err, api.ErrConfig) {
		t.Errorf("%s: New(%+v) = %v, %v; want nil, ErrConfig", name, c, g, err)
	}
	if code, is := err.(api.Code); !is || code != api.ErrConfig {
		t.Errorf("%s: New(%+v): the error is %#v, and not ErrConfig itself", name, c, err)
	}
}

// kinds are a config of each kind.
func kinds() []api.Config {
	return []api.Config{tumbling(10, 5), sliding(10, 5, 5), session(10, 5)}
}

// P8.1: the greatest and the least of what a config may have, too.
func TestNewOfConfigsThatMayBe(t *testing.T) {
	low := api.Config{Kind: api.Tumbling, Size: 1, Shards: 1, Groups: 1, Cap: 1}
	high := api.Config{Kind: api.Session, Gap: most, Late: most, Shards: 8, Groups: 16, Cap: 16}
	other := session(10, 0)
	other.Size, other.Slide = -1, -1
	for _, c := range append(kinds(), low, high, other, tumbling(most, most), sliding(most, most, 0), sliding(16, 1, 0), sliding(32, 2, 0)) {
		g := made(t, c)
		holds(t, g)
		for _, key := range []string{"", "a"} {
			if got := g.Panes(key); len(got) != 0 {
				t.Errorf("New(%+v): Panes(%q) = %v", c, key, got)
			}
		}
		for _, mark := range []int64{least, 0, most} {
			settles(t, g, mark)
			holds(t, g)
		}
	}
}

// marked is what goes out of a group at a mark.
type marked struct {
	mark int64
	out  []api.Pane
}

func panes(l ...api.Pane) []api.Pane { return l }

// checkSettle asks each mark of a group of its own, and once more: then nothing goes out.
func checkSettle(t *testing.T, fill func() *Group, all []api.Pane, rows []marked) {
	t.Helper()
	for _, r := range rows {
		g := fill()
		holds(t, g, all...)
		left := slices.DeleteFunc(slices.Clone(all), func(p api.Pane) bool { return slices.Contains(r.out, p) })
		settles(t, g, r.mark, r.out...)
		holds(t, g, left...)
		for _, mark := range []int64{r.mark, r.mark - 1, least} {
			settles(t, g, min(mark, r.mark))
			holds(t, g, left...)
		}
	}
}

// P8.1
func TestSettleOfTumbling(t *testing.T) {
	first, second, third := of("b", -10, 0, 9), of("a", 0, 10, 1, -7), of("a", 10, 20, 4)
	for _, late := range []int64{0, 5, 1000} {
		fill := func() *Group {
			g := made(t, tumbling(10, late))
			takes(t, g, "a", 3, 1, least, api.OK)
			takes(t, g, "a", 10, 4, least, api.OK)
			takes(t, g, "b", -3, 9, least, api.OK)
			takes(t, g, "a", 9, -7, least, api.OK)
			return g
		}
		checkSettle(t, fill, panes(second, third, first), []marked{
			{least, nil},
			{-11, nil},
			{late - 1, nil},
			{late, panes(first)},
			{late + 1, panes(first)},
			{late + 9, panes(first)},
			{late + 10, panes(first, second)},
			{late + 11, panes(first, second)},
			{late + 19, panes(first, second)},
			{late + 20, panes(first, second, third)},
			{late + 21, panes(first, second, third)},
			{most - 1, panes(first, second, third)},
			{most, panes(first, second, third)},
		})
	}
}

// P8.1
func TestSettleOfSliding(t *testing.T) {
	first, second, third := of("a", 0, 10, 1), of("a", 5, 15, 1, 2), of("a", 10, 20, 2)
	for _, late := range []int64{0, 3} {
		fill := func() *Group {
			g := made(t, sliding(10, 5, late))
			takes(t, g, "a", 12, 2, least, api.OK)
			takes(t, g, "a", 7, 1, least, api.OK)
			return g
		}
		checkSettle(t, fill, panes(first, second, third), []marked{
			{least, nil},
			{late + 9, nil},
			{late + 10, panes(first)},
			{late + 14, panes(first)},
			{late + 15, panes(first, second)},
			{late + 19, panes(first, second)},
			{late + 20, panes(first, second, third)},
			{most, panes(first, second, third)},
		})
	}
}

// P8.1
func TestSettleOfSession(t *testing.T) {
	first, second, third := of("b", 4, 14, 8), of("a", 0, 19, 1, 2, 3), of("a", 19, 29, 4)
	for _, late := range []int64{0, 7} {
		fill := func() *Group {
			g := made(t, session(10, late))
			takes(t, g, "a", 0, 1, least, api.OK)
			takes(t, g, "a", 9, 2, least, api.OK)
			takes(t, g, "b", 4, 8, least, api.OK)
			takes(t, g, "a", 19, 4, least, api.OK)
			takes(t, g, "a", 3, 3, least, api.OK)
			return g
		}
		checkSettle(t, fill, panes(second, third, first), []marked{
			{least, nil},
			{late + 10, nil},
			{late + 13, nil},
			{late + 14, panes(first)},
			{late + 18, panes(first)},
			{late + 19, panes(first, second)},
			{late + 28, panes(first, second)},
			{late + 29, panes(first, second, third)},
			{most, panes(first, second, third)},
		})
	}
}

// P8.1: of windows at both ends of 64 bits, and of End and Late that together are the greatest int64.
func TestSettleAtTheEnds(t *testing.T) {
	rows := []struct {
		c    api.Config
		at   int64
		p    api.Pane
		over int64
	}{
		{tumbling(1, 0), least, of("k", least, least+1, 6), least + 1},
		{tumbling(1, 0), most - 1, of("k", most-1, most, 6), most},
		{tumbling(1, 5), most - 6, of("k", most-6, most-5, 6), most},
		{tumbling(10, most), -1, of("k", -10, 0, 6), most},
		{tumbling(10, most-1), -10, of("k", -10, 0, 6), most - 1},
		{tumbling(most, 0), most - 1, of("k", 0, most, 6), most},
		{tumbling(most, 0), -1, of("k", -most, 0, 6), 0},
		{sliding(1, 1, 0), least, of("k", least, least+1, 6), least + 1},
		{sliding(most, most, 0), 0, of("k", 0, most, 6), most},
		{session(10, 0), least, of("k", least, least+10, 6), least + 10},
		{session(10, 0), most - 10, of("k", most-10, most, 6), most},
		{session(10, 9), most - 19, of("k", most-19, most-9, 6), most},
		{session(most, 0), 0, of("k", 0, most, 6), most},
		{session(most, most), -most, of("k", -most, 0, 6), most},
		{session(most, 0), least, of("k", least, -1, 6), -1},
	}
	for _, r := range rows {
		fill := func() *Group {
			g := made(t, r.c)
			takes(t, g, "k", r.at, 6, least, api.OK)
			return g
		}
		checkSettle(t, fill, panes(r.p), []marked{{least, nil}, {r.over - 1, nil}, {r.over, panes(r.p)}, {most, panes(r.p)}})
	}
}

// P8.1: by End, then Start, then the key's bytes; in whatever order the records came.
func TestOrderOfWhatGoesOut(t *testing.T) {
	records := []struct {
		key string
		at  int64
	}{
		{"z", 5}, {"m", 0}, {"m", 9}, {"c", 9}, {"\x80", 9}, {"cc", 9}, {"é", 9}, {"C", 9}, {"b", 3}, {"b", 12}, {"a", 12}, {"a", 100},
	}
	want := panes(
		of("z", 5, 15, 1), of("m", 0, 19, 1, 1),
		of("C", 9, 19, 1), of("c", 9, 19, 1), of("cc", 9, 19, 1), of("\x80", 9, 19, 1), of("é", 9, 19, 1),
		of("b", 3, 22, 1, 1), of("a", 12, 22, 1), of("a", 100, 110, 1),
	)
	for seed := range int64(100) {
		r := rand.New(rand.NewSource(seed))
		r.Shuffle(len(records), func(i, j int) { records[i], records[j] = records[j], records[i] })
		g, byTake, byMarks := made(t, session(10, 0)), made(t, session(10, 0)), made(t, session(10, 0))
		for _, x := range records {
			takes(t, g, x.key, x.at, 1, least, api.OK)
			takes(t, byTake, x.key, x.at, 1, least, api.OK)
			takes(t, byMarks, x.key, x.at, 1, least, api.OK)
		}
		settles(t, g, most, want...)
		takes(t, byTake, "k", 3, 1, 110, api.Late, want...)
		settles(t, byMarks, 15, want[0])
		settles(t, byMarks, 19, want[1:7]...)
		settles(t, byMarks, 22, want[7:9]...)
		settles(t, byMarks, 110, want[9])
		for _, g := range []*Group{g, byTake, byMarks} {
			holds(t, g)
		}
	}
}

// P8.1, P8.3: a pane that went out is gone; a record of its window at a lower watermark begins another one.
func TestGoesOutOnce(t *testing.T) {
	for _, c := range []api.Config{tumbling(10, 2), session(10, 2)} {
		g := made(t, c)
		takes(t, g, "a", 0, 7, least, api.OK)
		settles(t, g, 12, of("a", 0, 10, 7))
		holds(t, g)
		settles(t, g, 12)
		settles(t, g, most)
		takes(t, g, "a", 0, 8, 12, api.Late)
		takes(t, g, "a", 20, 8, 12, api.OK)
		settles(t, g, 31)
		takes(t, g, "b", 20, 8, 32, api.Late, of("a", 20, 30, 8))
		settles(t, g, most)
		holds(t, g)
		takes(t, g, "a", 0, 9, 11, api.OK)
		holds(t, g, of("a", 0, 10, 9))
		settles(t, g, 12, of("a", 0, 10, 9))
		holds(t, g)
	}
}

// timed is a record's time, and whether it has windows.
type timed struct {
	c   api.Config
	at  int64
	has bool
}

// timeRows have times beside each other, the last that has windows and the first that has none.
func timeRows() []timed {
	return []timed{
		{tumbling(10, 0), -9223372036854775800, true},
		{tumbling(10, 0), -9223372036854775801, false},
		{tumbling(10, 0), least, false},
		{tumbling(10, 0), 9223372036854775799, true},
		{tumbling(10, 0), 9223372036854775800, false},
		{tumbling(10, 0), most, false},
		{tumbling(10, 7), 9223372036854775799, true},
		{tumbling(10, 8), 9223372036854775799, false},
		{tumbling(10, 8), 9223372036854775789, true},
		{tumbling(10, most), -1, true},
		{tumbling(10, most), 0, false},
		{tumbling(1, 0), least, true},
		{tumbling(1, 0), most - 1, true},
		{tumbling(1, 0), most, false},
		{tumbling(most, 0), most - 1, true},
		{tumbling(most, 0), most, false},
		{tumbling(most, 1), 0, false},
		{tumbling(most, 1), -1, true},
		{tumbling(most, 0), -most, true},
		{tumbling(most, 0), least, false},
		{sliding(10, 5, 0), -9223372036854775800, true},
		{sliding(10, 5, 0), -9223372036854775801, false}, // -…5805 would fit, -…5810 doesn't
		{sliding(10, 5, 0), -9223372036854775805, false},
		{sliding(10, 5, 0), least, false},
		{sliding(10, 5, 0), 9223372036854775799, true},
		{sliding(10, 5, 0), 9223372036854775800, false}, // …5795 to …5805 would fit, …5800 to …5810 doesn't
		{sliding(10, 5, 3), 9223372036854775795, false},
		{sliding(10, 5, 2), 9223372036854775795, true},
		{sliding(10, 5, 0), most, false},
		{session(10, 0), least, true},
		{session(10, 0), most - 10, true},
		{session(10, 0), most - 9, false},
		{session(10, 0), most, false},
		{session(10, 5), most - 15, true},
		{session(10, 5), most - 14, false},
		{session(most, 0), 0, true},
		{session(most, 0), 1, false},
		{session(most, 1), 0, false},
		{session(most, most), -most, true},
		{session(most, most), 1 - most, false},
	}
}

// P8.1: by a time that has no windows nothing is put; by one that has it is OK at the least watermark.
func TestTakeOfEachTime(t *testing.T) {
	for _, r := range timeRows() {
		g := made(t, r.c)
		if r.has {
			takes(t, g, "k", r.at, 1, least, api.OK)
			for _, p := range g.Panes("k") {
				if p.Span.Start > r.at || p.Span.End <= r.at {
					t.Errorf("%+v: %d stands in %v", r.c, r.at, p)
				}
			}
			continue
		}
		// All is over at the greatest watermark, but BadTime is told ahead of Late.
		for _, mark := range []int64{least, -1, 0, most} {
			takes(t, g, "k", r.at, 1, mark, api.BadTime)
			holds(t, g)
		}
	}
}

// P8.1: it is settled all the same, and what isn't over stays as it is.
func TestTakeOfBadTimeSettles(t *testing.T) {
	for _, c := range kinds() {
		for _, at := range []int64{most, most - 4} {
			g := made(t, c)
			takes(t, g, "b", 5, 1, least, api.OK)
			takes(t, g, "a", 5, 2, least, api.OK)
			takes(t, g, "a", 100, 3, least, api.OK)
			want := slices.DeleteFunc(g.Panes("a"), func(p api.Pane) bool { return p.Span.End <= 20 })
			takes(t, g, "a", at, 4, 14, api.BadTime)
			out := panes(of("a", 5, 15, 2), of("b", 5, 15, 1))
			switch c.Kind {
			case api.Tumbling:
				out = panes(of("a", 0, 10, 2), of("b", 0, 10, 1))
			case api.Sliding:
				out = panes(of("a", 0, 10, 2), of("b", 0, 10, 1), of("a", 5, 15, 2), of("b", 5, 15, 1))
			}
			takes(t, g, "a", at, 4, 20, api.BadTime, out...)
			holds(t, g, want...)
			takes(t, g, "c", at, 4, 20, api.BadTime)
			holds(t, g, want...)
		}
	}
}

// P8.1
func TestTakeIsLateAtTheEdge(t *testing.T) {
	rows := []struct {
		c    api.Config
		at   int64
		over int64
	}{
		{tumbling(10, 0), 0, 10},
		{tumbling(10, 0), 9, 10},
		{tumbling(10, 0), 10, 20},
		{tumbling(10, 0), -1, 0},
		{tumbling(10, 5), 3, 15},
		{tumbling(10, most), -3, most},
		{tumbling(1, 0), least, least + 1},
		{tumbling(1, 0), most - 1, most},
		{sliding(10, 5, 0), 7, 15},
		{sliding(10, 5, 4), 4, 14},
		{sliding(10, 10, 4), 4, 14},
		{session(10, 0), 0, 10},
		{session(10, 0), 9, 19},
		{session(10, 5), -3, 12},
		{session(10, 0), most - 10, most},
		{session(1, 0), least, least + 1},
	}
	for _, r := range rows {
		for _, mark := range []int64{r.over, r.over + min(1, most-r.over), most} {
			g := made(t, r.c)
			takes(t, g, "k", r.at, 1, mark, api.Late)
			holds(t, g)
		}
		for _, mark := range []int64{r.over - 1, least} {
			g := made(t, r.c)
			takes(t, g, "k", r.at, 1, mark, api.OK)
			if g.Len() == 0 || g.Due() != g.Len() || !slices.Equal(g.Keys(), []string{"k"}) {
				t.Errorf("%+v: at %d it has %d panes, %d timers, the keys %q", r.c, mark, g.Len(), g.Due(), g.Keys())
			}
		}
	}
}

// P8.1: what goes out ahead of a record that is late, and what stays beside it.
func TestTakeOfALateOneSettles(t *testing.T) {
	g := made(t, tumbling(10, 5))
	takes(t, g, "b", 1, 1, least, api.OK)
	takes(t, g, "a", 2, 2, 14, api.OK)
	takes(t, g, "a", 12, 3, 14, api.OK)
	takes(t, g, "a", 4, 4, 15, api.Late, of("a", 0, 10, 2), of("b", 0, 10, 1))
	holds(t, g, of("a", 10, 20, 3))
	takes(t, g, "c", 4, 4, 15, api.Late)
	holds(t, g, of("a", 10, 20, 3))
	takes(t, g, "c", 14, 5, 24, api.OK)
	takes(t, g, "c", 0, 5, 25, api.Late, of("a", 10, 20, 3), of("c", 10, 20, 5))
	holds(t, g)
}

// P8.1
func TestTakeOfTumbling(t *testing.T) {
	g := made(t, tumbling(10, 0))
	takes(t, g, "a", 3, 5, 0, api.OK)
	holds(t, g, of("a", 0, 10, 5))
	takes(t, g, "a", 9, -2, 9, api.OK)
	holds(t, g, of("a", 0, 10, 5, -2))
	takes(t, g, "a", -1, 7, -1, api.OK)
	holds(t, g, of("a", -10, 0, 7), of("a", 0, 10, 5, -2))
	takes(t, g, "a", 25, most, -1, api.OK)
	takes(t, g, "a", 20, 3, 8, api.OK, of("a", -10, 0, 7))
	holds(t, g, of("a", 0, 10, 5, -2), of("a", 20, 30, most, 3))
	takes(t, g, "a", 10, 0, 10, api.OK, of("a", 0, 10, 5, -2))
	holds(t, g, of("a", 10, 20, 0), of("a", 20, 30, most, 3))
}

// P8.1
func TestTakeOfSliding(t *testing.T) {
	g := made(t, sliding(10, 5, 0))
	takes(t, g, "a", -3, 1, least, api.OK)
	holds(t, g, of("a", -10, 0, 1), of("a", -5, 5, 1))
	takes(t, g, "a", 0, 2, least, api.OK)
	holds(t, g, of("a", -10, 0, 1), of("a", -5, 5, 1, 2), of("a", 0, 10, 2))
	takes(t, g, "a", 9, 3, -1, api.OK)
	holds(t, g, of("a", -10, 0, 1), of("a", -5, 5, 1, 2), of("a", 0, 10, 2, 3), of("a", 5, 15, 3))
	takes(t, g, "a", 4, 4, 5, api.OK, of("a", -10, 0, 1), of("a", -5, 5, 1, 2))
	holds(t, g, of("a", 0, 10, 2, 3, 4), of("a", 5, 15, 3))
}

// P8.1: windows that are over don't have the value, those that aren't have it once.
func TestTakeOfSlidingWhereSomeAreOver(t *testing.T) {
	rows := []struct {
		mark int64
		code int
		want []api.Pane
	}{
		{least, api.OK, panes(of("k", 3, 13, 6), of("k", 6, 16, 6), of("k", 9, 19, 6))},
		{14, api.OK, panes(of("k", 3, 13, 6), of("k", 6, 16, 6), of("k", 9, 19, 6))},
		{15, api.OK, panes(of("k", 6, 16, 6), of("k", 9, 19, 6))},
		{17, api.OK, panes(of("k", 6, 16, 6), of("k", 9, 19, 6))},
		{18, api.OK, panes(of("k", 9, 19, 6))},
		{20, api.OK, panes(of("k", 9, 19, 6))},
		{21, api.Late, nil},
		{most, api.Late, nil},
	}
	for _, r := range rows {
		g := made(t, sliding(10, 3, 2))
		takes(t, g, "k", 10, 6, r.mark, r.code)
		holds(t, g, r.want...)
		settles(t, g, 21, r.want...)
	}
	for mark := range int64(17) {
		g := made(t, sliding(16, 1, 0))
		var want []api.Pane
		for start := mark - 15; start <= 0; start++ {
			want = append(want, of("k", start, start+16, 6))
		}
		code := api.OK
		if mark == 16 {
			code = api.Late
		}
		takes(t, g, "k", 0, 6, mark, code)
		holds(t, g, want...)
	}
}

// P8.1: some of its windows have panes already, and some of those go out ahead of it.
func TestTakeOfSlidingBesideOthers(t *testing.T) {
	g := made(t, sliding(10, 5, 1))
	takes(t, g, "k", 6, 1, least, api.OK)
	takes(t, g, "l", 3, 2, least, api.OK)
	takes(t, g, "k", 8, 4, 11, api.OK, of("l", -5, 5, 2), of("k", 0, 10, 1), of("l", 0, 10, 2))
	holds(t, g, of("k", 5, 15, 1, 4))
	takes(t, g, "k", 11, 8, 15, api.OK)
	holds(t, g, of("k", 5, 15, 1, 4, 8), of("k", 10, 20, 8))
	takes(t, g, "k", 14, 16, 16, api.OK, of("k", 5, 15, 1, 4, 8))
	holds(t, g, of("k", 10, 20, 8, 16))
	takes(t, g, "k", 9, 32, 16, api.Late)
	takes(t, g, "l", 10, 32, 20, api.OK)
	holds(t, g, of("k", 10, 20, 8, 16), of("l", 10, 20, 32))
}

// P8.1: of a session that grows at its end, at its start, and not at all; the timer is that of the new window alone.
func TestTakeExtendsASession(t *testing.T) {
	g := made(t, session(10, 5))
	takes(t, g, "a", 0, 1, least, api.OK)
	holds(t, g, of("a", 0, 10, 1))
	takes(t, g, "a", 9, 2, 9, api.OK)
	holds(t, g, of("a", 0, 19, 1, 2))
	takes(t, g, "a", 19, 3, 14, api.OK)
	holds(t, g, of("a", 0, 19, 1, 2), of("a", 19, 29, 3))
	// 0 to 10 would be over at 15: its timer is no more.
	settles(t, g, 23)
	takes(t, g, "a", 9, 4, 23, api.OK)
	holds(t, g, of("a", 0, 19, 1, 2, 4), of("a", 19, 29, 3))
	takes(t, g, "a", 20, 5, 24, api.OK, of("a", 0, 19, 1, 2, 4))
	holds(t, g, of("a", 19, 30, 3, 5))
	takes(t, g, "a", 16, 6, 30, api.OK)
	holds(t, g, of("a", 16, 30, 3, 5, 6))
	takes(t, g, "a", 20, 7, 34, api.OK)
	holds(t, g, of("a", 16, 30, 3, 5, 6, 7))
	settles(t, g, 34)
	settles(t, g, 35, of("a", 16, 30, 3, 5, 6, 7))
	holds(t, g)
}

// P8.1
func TestTakeJoinsSessions(t *testing.T) {
	g := made(t, session(10, 0))
	takes(t, g, "a", 0, 1, least, api.OK)
	takes(t, g, "a", 15, 2, least, api.OK)
	takes(t, g, "b", 15, 4, least, api.OK)
	takes(t, g, "a", 40, 8, least, api.OK)
	holds(t, g, of("a", 0, 10, 1), of("a", 15, 25, 2), of("a", 40, 50, 8), of("b", 15, 25, 4))
	takes(t, g, "a", 8, 16, 9, api.OK)
	holds(t, g, of("a", 0, 25, 1, 2, 16), of("a", 40, 50, 8), of("b", 15, 25, 4))
	// Windows that only touch don't meet.
	takes(t, g, "a", 25, 32, 24, api.OK)
	takes(t, g, "b", 5, 64, 14, api.OK)
	holds(t, g, of("a", 0, 25, 1, 2, 16), of("a", 25, 35, 32), of("a", 40, 50, 8), of("b", 5, 15, 64), of("b", 15, 25, 4))
	takes(t, g, "a", 31, 128, 14, api.OK)
	holds(t, g, of("a", 0, 25, 1, 2, 16), of("a", 25, 50, 8, 32, 128), of("b", 5, 15, 64), of("b", 15, 25, 4))
	settles(t, g, 24, of("b", 5, 15, 64))
	takes(t, g, "a", 24, 256, 24, api.OK)
	holds(t, g, of("a", 0, 50, 1, 2, 8, 16, 32, 128, 256), of("b", 15, 25, 4))
	settles(t, g, 49, of("b", 15, 25, 4))
	settles(t, g, 50, of("a", 0, 50, 1, 2, 8, 16, 32, 128, 256))
	holds(t, g)
}

// P8.1: a session that is over goes out ahead of a record that would have met it; one that is late isn't merged in.
func TestTakeOfASessionByTheWatermark(t *testing.T) {
	g := made(t, session(10, 0))
	takes(t, g, "a", 0, 1, least, api.OK)
	takes(t, g, "a", 5, 2, 10, api.OK, of("a", 0, 10, 1))
	holds(t, g, of("a", 5, 15, 2))
	takes(t, g, "a", 0, 4, 10, api.Late)
	holds(t, g, of("a", 5, 15, 2))
	takes(t, g, "a", 1, 8, 10, api.OK)
	holds(t, g, of("a", 1, 15, 2, 8))
	takes(t, g, "a", 12, 16, 15, api.OK, of("a", 1, 15, 2, 8))
	holds(t, g, of("a", 12, 22, 16))
}

// P8.1: windows of one key have nothing to do with those of another, be they the same ones, or meet.
func TestTheSameWindowOfTwoKeys(t *testing.T) {
	for _, c := range []api.Config{tumbling(10, 0), sliding(10, 10, 0), session(10, 0)} {
		for _, keys := range [][]string{{"a", "b"}, {"b", "a"}} {
			g := made(t, c)
			for i, key := range keys {
				takes(t, g, key, 0, int64(i), 9, api.OK)
			}
			takes(t, g, "b", 0, 5, 9, api.OK)
			first, second := of("a", 0, 10, 0), of("b", 0, 10, 1, 5)
			if keys[0] == "b" {
				first, second = of("a", 0, 10, 1), of("b", 0, 10, 0, 5)
			}
			holds(t, g, first, second)
			settles(t, g, 10, first, second)
			holds(t, g)
		}
	}
	g := made(t, session(10, 0))
	takes(t, g, "a", 0, 1, 9, api.OK)
	takes(t, g, "b", 5, 2, 9, api.OK)
	holds(t, g, of("a", 0, 10, 1), of("b", 5, 15, 2))
	// What becomes one of a goes on being there of b.
	takes(t, g, "b", 0, 4, 9, api.OK)
	takes(t, g, "a", 5, 8, 9, api.OK)
	holds(t, g, of("a", 0, 15, 1, 8), of("b", 0, 15, 2, 4))
}

// P8.1: by rising windows, whatever the order of records; none of a key that there isn't, or isn't any more.
func TestPanes(t *testing.T) {
	times := []int64{-25, -11, 3, 14, 25, 38, 102}
	for seed := range int64(50) {
		rand.New(rand.NewSource(seed)).Shuffle(len(times), func(i, j int) { times[i], times[j] = times[j], times[i] })
		g := made(t, tumbling(10, 0))
		for _, at := range times {
			takes(t, g, "a", at, at, least, api.OK)
		}
		takes(t, g, "ab", 0, 1, least, api.OK)
		want := panes(of("a", -30, -20, -25), of("a", -20, -10, -11), of("a", 0, 10, 3), of("a", 10, 20, 14), of("a", 20, 30, 25), of("a", 30, 40, 38), of("a", 100, 110, 102))
		holds(t, g, append(want, of("ab", 0, 10, 1))...)
		for _, key := range []string{"", "b", "A", "a\x00", "aba", "\xff"} {
			if got := g.Panes(key); len(got) != 0 {
				t.Errorf("Panes(%q) = %v", key, got)
			}
		}
		// Asking for keys that there aren't makes none.
		holds(t, g, append(want, of("ab", 0, 10, 1))...)
		g.Settle(15)
		if got := g.Panes("ab"); len(got) != 0 {
			t.Errorf("Panes(ab) = %v; its pane went out", got)
		}
		holds(t, g, want[3:]...)
	}
}

// risingKeys are written out by rising bytes: the letters' own order would be another one. Layer 8 asks of no key
// whether it may be.
func risingKeys() []string {
	return []string{
		"", "\x00", "\x00a", "10", "9", "A", "Z", "a", "a\x00", "aa", "ab", "abc", "a\xff", "b", "z", "\x7f", "\x80", "\xc3", "é",
		"é!", "\xef\xbf\xbd", "😀", strings.Repeat("\xfe", 30), "\xff", "\xff\xff",
	}
}

// P8.1
func TestKeys(t *testing.T) {
	keys := risingKeys()
	for seed := range int64(50) {
		g := made(t, tumbling(10, 0))
		for _, i := range rand.New(rand.NewSource(seed)).Perm(len(keys)) {
			takes(t, g, keys[i], int64(i), 1, least, api.OK)
			takes(t, g, keys[i], int64(i+20), 1, least, api.OK)
		}
		if got := g.Keys(); !slices.Equal(got, keys) || g.Len() != 2*len(keys) || g.Due() != 2*len(keys) {
			t.Fatalf("seed %d: Keys() = %q; want %q; %d panes, %d timers", seed, got, keys, g.Len(), g.Due())
		}
	}
	// Each has one pane left at least, till the first ones have none at 30.
	for mark, gone := range map[int64]int{29: 0, 30: 10, 39: 10, 40: 20, 49: 20, 50: len(keys)} {
		g := made(t, tumbling(10, 0))
		for i, key := range keys {
			takes(t, g, key, int64(i), 1, least, api.OK)
			takes(t, g, key, int64(i+20), 1, least, api.OK)
		}
		g.Settle(mark)
		if got := g.Keys(); !slices.Equal(got, keys[gone:]) {
			t.Errorf("at %d Keys() = %q; want %q", mark, got, keys[gone:])
		}
	}
}

// P8.1: a key whose panes went out comes back with its next record alone.
func TestKeysComeBack(t *testing.T) {
	g := made(t, session(10, 0))
	takes(t, g, "a", 0, 1, least, api.OK)
	takes(t, g, "b", 3, 1, least, api.OK)
	settles(t, g, 10, of("a", 0, 10, 1))
	holds(t, g, of("b", 3, 13, 1))
	takes(t, g, "a", 0, 1, 10, api.Late)
	takes(t, g, "a", most, 1, 10, api.BadTime)
	holds(t, g, of("b", 3, 13, 1))
	takes(t, g, "a", 4, 2, 10, api.OK)
	holds(t, g, of("a", 4, 14, 2), of("b", 3, 13, 1))
}

// spoil writes over all that a list has, and has room for.
func spoil(l []api.Pane) {
	for i := range l {
		l[i] = of("spoilt", -1, 99, 77)
	}
	l = l[:cap(l)]
	for i := range l {
		l[i] = of("spoilt", -1, 99, 77)
	}
}

// P8.2: what is told may be written over, and isn't seen to change as the group does.
func TestAnswersAreNewMemory(t *testing.T) {
	for _, c := range []api.Config{tumbling(10, 0), sliding(10, 10, 0), session(10, 0)} {
		fill := func() *Group {
			g := made(t, c)
			for i, key := range []string{"a", "b", "c"} {
				for _, at := range []int64{0, 20, 40} {
					takes(t, g, key, at, int64(i), least, api.OK)
				}
			}
			return g
		}
		all := func(values ...int64) []api.Pane {
			var list []api.Pane
			for i, key := range []string{"a", "b", "c"} {
				for _, at := range []int64{0, 20, 40} {
					list = append(list, of(key, at, at+10, append(values, int64(i))...))
				}
			}
			return list
		}
		g := fill()
		again, lists, keys := g.Panes("b"), [][]api.Pane{g.Panes("a"), g.Panes("b"), g.Panes("b"), g.Panes("c")}, g.Keys()
		for _, l := range lists {
			spoil(l)
		}
		clear(keys[:cap(keys)])
		holds(t, g, all()...)
		told := g.Keys()
		for _, key := range []string{"a", "b", "c"} {
			for _, at := range []int64{0, 20, 40} {
				takes(t, g, key, at, 9, least, api.OK)
			}
		}
		holds(t, g, all(9)...)
		if want := panes(of("b", 0, 10, 1), of("b", 20, 30, 1), of("b", 40, 50, 1)); !slices.Equal(again, want) {
			t.Errorf("what Panes told became %v", again)
		}
		out := g.Settle(10)
		_, more := g.Take("d", 99, 1, 30)
		outCopy, moreCopy := slices.Clone(out), slices.Clone(more)
		takes(t, g, "a", 0, 3, least, api.OK)
		takes(t, g, "a", 20, 3, least, api.OK)
		if !slices.Equal(out, outCopy) || !slices.Equal(more, moreCopy) || !slices.Equal(told, []string{"a", "b", "c"}) {
			t.Errorf("what was told became %v, %v, %q", out, more, told)
		}
		spoil(out)
		spoil(more)
		rest := g.Settle(50)
		if len(rest) != 5 || rest[0] != of("a", 0, 10, 3) || rest[1] != of("a", 20, 30, 3) || rest[4] != of("c", 40, 50, 9, 2) {
			t.Errorf("Settle(50) = %v", rest)
		}
	}
}

// R2: a config, and a key, that are handed in are one's own to change.
func TestNothingIsKeptOfWhatIsHandedIn(t *testing.T) {
	c, key := tumbling(10, 0), []byte("key")
	g := made(t, c)
	takes(t, g, string(key), 3, 1, 0, api.OK)
	c.Size, c.Late, key[0] = 7, 100, 'x'
	takes(t, g, "key", 8, 1, 0, api.OK)
	holds(t, g, of("key", 0, 10, 1, 1))
	settles(t, g, 10, of("key", 0, 10, 1, 1))
}

// P8.1: two of them know nothing of each other, even of one config.
func TestTwoGroups(t *testing.T) {
	for _, c := range kinds() {
		one, two := made(t, c), made(t, c)
		takes(t, one, "a", 0, 1, least, api.OK)
		holds(t, two)
		settles(t, two, most)
		there := one.Panes("a")
		holds(t, one, there...)
		takes(t, two, "a", 0, 2, least, api.OK)
		settles(t, one, most, there...)
		holds(t, one)
		if l := two.Panes("a"); len(l) != len(there) || l[0].Agg.Sum != 2 {
			t.Errorf("%+v: the other one has %v", c, l)
		}
	}
}

// P8.1: none of these changes anything, however often it is asked.
func TestAskingChangesNothing(t *testing.T) {
	g := made(t, session(10, 0))
	takes(t, g, "b", 0, 1, least, api.OK)
	takes(t, g, "a", 0, 1, least, api.OK)
	for range 5 {
		holds(t, g, of("a", 0, 10, 1), of("b", 0, 10, 1))
		settles(t, g, 9)
		settles(t, g, least)
	}
}

// placed is a value in one of its windows: of Session in the one from its time on.
type placed struct {
	key string
	s   api.Span
	v   int64
}

// records are what a group has, as values that are put together only where they are asked for.
type records struct {
	c    api.Config
	live []placed
}

// windowsOf goes through all times at which a window that has the time might begin, in exact integers.
func windowsOf(c api.Config, at int64) ([]api.Span, bool) {
	size, slide := c.Size, c.Slide
	switch c.Kind {
	case api.Tumbling:
		slide = size
	case api.Session:
		size, slide = c.Gap, 1
	}
	var list []api.Span
	for back := size - 1; back >= 0; back-- {
		if c.Kind == api.Session && back > 0 {
			continue
		}
		start := new(big.Int).Sub(big.NewInt(at), big.NewInt(back))
		if new(big.Int).Mod(start, big.NewInt(slide)).Sign() != 0 {
			continue
		}
		end := new(big.Int).Add(start, big.NewInt(size))
		if !start.IsInt64() || !end.IsInt64() || !new(big.Int).Add(end, big.NewInt(c.Late)).IsInt64() {
			return nil, false
		}
		list = append(list, api.Span{Start: start.Int64(), End: end.Int64()})
	}
	return list, true
}

// over is told by exact integers.
func over(s api.Span, late, mark int64) bool {
	sum := new(big.Int).Add(big.NewInt(s.End), big.NewInt(late))
	return sum.Cmp(big.NewInt(mark)) <= 0
}

// panes are those that the values come to, by rising keys and windows.
func (r *records) panes() []api.Pane {
	list := slices.Clone(r.live)
	slices.SortStableFunc(list, func(a, b placed) int {
		if n := bytes.Compare([]byte(a.key), []byte(b.key)); n != 0 {
			return n
		}
		if a.s.Start < b.s.Start {
			return -1
		}
		if a.s.Start > b.s.Start {
			return 1
		}
		return 0
	})
	var told []api.Pane
	var values []int64
	for i, x := range list {
		joins := i > 0 && told[len(told)-1].Key == x.key && told[len(told)-1].Span == x.s
		if i > 0 && r.c.Kind == api.Session {
			joins = told[len(told)-1].Key == x.key && x.s.Start < told[len(told)-1].Span.End
		}
		if !joins {
			told, values = append(told, api.Pane{Span: x.s}), nil
		}
		values = append(values, x.v)
		told[len(told)-1] = of(x.key, told[len(told)-1].Span.Start, x.s.End, values...)
	}
	return told
}

func (r *records) settle(mark int64) []api.Pane {
	out := slices.DeleteFunc(r.panes(), func(p api.Pane) bool { return !over(p.Span, r.c.Late, mark) })
	for _, p := range out {
		r.live = slices.DeleteFunc(r.live, func(x placed) bool {
			return x.key == p.Key && p.Span.Start <= x.s.Start && x.s.End <= p.Span.End
		})
	}
	slices.SortFunc(out, func(a, b api.Pane) int {
		return compare(timer.Timer{Key: a.Key, Span: a.Span}, timer.Timer{Key: b.Key, Span: b.Span})
	})
	return out
}

func (r *records) take(key string, at, v, mark int64) (int, []api.Pane) {
	out := r.settle(mark)
	list, has := windowsOf(r.c, at)
	if !has {
		return api.BadTime, out
	}
	list = slices.DeleteFunc(list, func(s api.Span) bool { return over(s, r.c.Late, mark) })
	for _, s := range list {
		r.live = append(r.live, placed{key, s, v})
	}
	if len(list) == 0 {
		return api.Late, out
	}
	return api.OK, out
}

// drawn is a config of small numbers.
func drawn(r *rand.Rand) api.Config {
	late := r.Int63n(3) * r.Int63n(8)
	switch r.Intn(3) {
	case 0:
		return tumbling(1+r.Int63n(12), late)
	case 1:
		size := 1 + r.Int63n(16)
		return sliding(size, 1+r.Int63n(size), late)
	}
	return session(1+r.Int63n(12), late)
}

// near is a time near the least int64 (-1), 0, or the greatest one (1), among at most width.
func near(r *rand.Rand, where int, width int64) int64 {
	n := r.Int63n(width)
	switch where {
	case -1:
		return least + n
	case 1:
		return most - n
	}
	return n - width/2
}

// P8.1, P8.3, P1: whatever calls come, at rising marks or any ones, each answers as records do.
func TestAgainstRecords(t *testing.T) {
	keys := []string{"", "a", "a\x00", "b", "\xff"}
	for seed := range int64(600) {
		r := rand.New(rand.NewSource(seed))
		c := drawn(r)
		g, want := made(t, c), &records{c: c}
		where, rising := r.Intn(3)-1, r.Intn(2) == 0
		mark := int64(least)
		for i := range 80 {
			if next := near(r, where, 60); !rising || i%8 == 7 && next > mark {
				mark = next
			}
			if r.Intn(6) == 0 {
				if got, w := g.Settle(mark), want.settle(mark); !slices.Equal(got, w) {
					t.Fatalf("seed %d, %+v: Settle(%d) = %v; want %v", seed, c, mark, got, w)
				}
			} else {
				key, at, v := keys[r.Intn(len(keys))], near(r, where, 60), int64(r.Uint64())
				code, out := want.take(key, at, v, mark)
				if gotCode, got := g.Take(key, at, v, mark); gotCode != code || !slices.Equal(got, out) {
					t.Fatalf("seed %d, %+v: Take(%q, %d, %d, %d) = %d, %v; want %d, %v", seed, c, key, at, v, mark, gotCode, got, code, out)
				}
			}
			holds(t, g, want.panes()...)
			if t.Failed() {
				t.Fatalf("seed %d, %+v, behind %d calls", seed, c, i+1)
			}
		}
		if got, w := g.Settle(most), want.settle(most); !slices.Equal(got, w) {
			t.Fatalf("seed %d, %+v: Settle(most) = %v; want %v", seed, c, got, w)
		}
		holds(t, g)
	}
}

// P8.3: each value is a bit of its own, so that a pane's Sum tells which ones it has.
func TestEachValueOnceInEachWindow(t *testing.T) {
	for seed := range int64(400) {
		r := rand.New(rand.NewSource(seed))
		c := drawn(r)
		g := made(t, c)
		var went []api.Pane
		var all []placed
		mark := int64(least)
		for bit := range 62 {
			key, at, v := string(rune('a'+r.Intn(2))), r.Int63n(50)+int64(bit), int64(1)<<bit
			if r.Intn(3) == 0 {
				mark = max(mark, r.Int63n(30)+int64(bit)-10)
			}
			code, out := g.Take(key, at, v, mark)
			went = append(went, out...)
			list, _ := windowsOf(c, at)
			list = slices.DeleteFunc(list, func(s api.Span) bool { return over(s, c.Late, mark) })
			if (code == api.OK) != (len(list) > 0) {
				t.Fatalf("seed %d, %+v: Take(%q, %d, %d, %d) = %d", seed, c, key, at, v, mark, code)
			}
			for _, s := range list {
				all = append(all, placed{key, s, v})
			}
			together := slices.Concat(went, g.Panes("a"), g.Panes("b"))
			if len(together) != len(went)+g.Len() {
				t.Fatalf("seed %d, %+v: Len() = %d", seed, c, g.Len())
			}
			eachOnce(t, c, together, all)
			if t.Failed() {
				t.Fatalf("seed %d, %+v, behind %d records", seed, c, bit+1)
			}
		}
		eachOnce(t, c, append(went, g.Settle(most)...), all)
	}
}

// eachOnce holds panes that went out, and are there, against all values, each once in each of its windows.
func eachOnce(t *testing.T, c api.Config, list []api.Pane, all []placed) {
	t.Helper()
	count := 0
	for _, p := range list {
		count += p.Agg.Count
		if bits.OnesCount64(uint64(p.Agg.Sum)) != p.Agg.Count {
			t.Errorf("%v has a value twice", p)
		}
	}
	if count != len(all) {
		t.Errorf("%d values stand in windows; want %d", count, len(all))
	}
	for _, x := range all {
		times := 0
		for _, p := range list {
			in := p.Span == x.s || c.Kind == api.Session && p.Span.Start <= x.s.Start && x.s.End <= p.Span.End
			if p.Key == x.key && in && p.Agg.Sum&x.v != 0 {
				times++
			}
		}
		if times != 1 {
			t.Errorf("%d of %q stands %d times in %v", x.v, x.key, times, x.s)
		}
	}
}

// P1: no call panics, and each ends, at the ends of 64 bits and of what a config may have.
func TestNoPanic(t *testing.T) {
	ends := []int64{least, least + 1, -1, 0, 1, most - 1, most}
	configs := append(kinds(),
		tumbling(1, 0), tumbling(most, 0), tumbling(most, most), tumbling(1, most),
		sliding(16, 1, 0), sliding(most, most, most), sliding(most, most/16+1, 0), sliding(1, 1, most),
		session(1, 0), session(most, 0), session(1, most), session(most, most),
	)
	for _, c := range configs {
		g := made(t, c)
		for _, mark := range ends {
			for _, at := range ends {
				for _, key := range []string{"", "a", "\xff", strings.Repeat("k", 1000)} {
					g.Take(key, at, at, mark)
					g.Panes(key)
				}
				if g.Len() != g.Due() {
					t.Fatalf("%+v: Len() = %d, Due() = %d", c, g.Len(), g.Due())
				}
			}
			g.Settle(mark)
			g.Keys()
		}
		g.Settle(most)
		holds(t, g)
	}
}

// Nothing is kept of keys whose panes went out.
func TestNothingIsKeptOfWhatIsGone(t *testing.T) {
	for _, c := range kinds() {
		g := made(t, c)
		for i := range int64(100) {
			g.Take(string(rune('a'+i%26)), i*7, i, least)
		}
		g.Settle(most)
		holds(t, g)
		if len(g.panes) != 0 {
			t.Errorf("%+v: lists of %d keys are kept", c, len(g.panes))
		}
	}
}
