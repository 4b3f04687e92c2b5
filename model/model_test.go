package model

import (
	"errors"
	"fmt"
	"math"
	"math/rand"
	"slices"
	"strings"
	"testing"

	"easel/api"
	"easel/call"
	"easel/fnv"
	"easel/group"
)

const (
	least = math.MinInt64
	most  = math.MaxInt64
)

func tumbling(size, late int64) api.Config {
	return api.Config{Kind: api.Tumbling, Size: size, Late: late, Shards: 2, Groups: 4, Cap: 8}
}

func sliding(size, slide, late int64) api.Config {
	return api.Config{Kind: api.Sliding, Size: size, Slide: slide, Late: late, Shards: 2, Groups: 4, Cap: 8}
}

func session(gap, late int64) api.Config {
	return api.Config{Kind: api.Session, Gap: gap, Late: late, Shards: 2, Groups: 4, Cap: 8}
}

// kinds are a config of each kind.
func kinds() []api.Config {
	return []api.Config{tumbling(10, 5), sliding(10, 5, 5), session(10, 5)}
}

// names are keys that may be; of 4 groups, and of 16, they are of several.
func names() []string {
	return []string{"a", "b", "ab", "c", "\x80", "\xff", "é", "user-17", "12345678901234567890"}
}

// wrongNames are keys that may not be: of 0 bytes, of 21, and of more.
func wrongNames() []string {
	return []string{"", "123456789012345678901", strings.Repeat("\xff", 21), strings.Repeat("é", 11), strings.Repeat("a", 300)}
}

func ingest(key string, at, v int64) api.Call {
	return api.Call{Op: api.Ingest, Key: key, Time: at, Value: v}
}

func tryIngest(key string, at, v int64) api.Call {
	return api.Call{Op: api.TryIngest, Key: key, Time: at, Value: v}
}

func advance(at int64) api.Call { return api.Call{Op: api.Advance, Time: at} }

func queryPane(key string, start, end int64) api.Call {
	return api.Call{Op: api.QueryPane, Key: key, Time: start, End: end}
}

func queryKey(key string) api.Call { return api.Call{Op: api.QueryKey, Key: key} }

func rebalance(group, shard int) api.Call {
	return api.Call{Op: api.Rebalance, Group: group, Shard: shard}
}

func closing() api.Call { return api.Call{Op: api.Close} }

// of is a pane of a key's window that has these values.
func of(key string, start, end int64, values ...int64) api.Pane {
	a := api.Agg{Count: len(values), Min: slices.Min(values), Max: slices.Max(values)}
	for _, v := range values {
		a.Sum += v
	}
	return api.Pane{Key: key, Span: api.Span{Start: start, End: end}, Agg: a}
}

func panes(l ...api.Pane) []api.Pane { return l }

func made(t *testing.T, c api.Config) *Model {
	t.Helper()
	m, err := New(c)
	if err != nil || m == nil {
		t.Fatalf("New(%+v) = %v, %v", c, m, err)
	}
	return m
}

// does does a call, and holds the reply against a code and panes; then it writes over the reply.
func does(t *testing.T, m *Model, x api.Call, code int, list ...api.Pane) {
	t.Helper()
	before := x
	got := m.Do(x)
	if got.Code != code || !slices.Equal(got.Panes, list) {
		t.Errorf("Do(%+v) = %+v; want %d, %+v", x, got, code, list)
	}
	if x != before {
		t.Errorf("Do(%+v) made the call %+v", before, x)
	}
	spoil(got.Panes)
}

// ofKey are those panes of a list that are a key's.
func ofKey(list []api.Pane, key string) []api.Pane {
	return slices.DeleteFunc(slices.Clone(list), func(p api.Pane) bool { return p.Key != key })
}

// stands holds all that a model tells of itself. What is there stands by rising windows of each key.
func stands(t *testing.T, m *Model, mark int64, out, there []api.Pane) {
	t.Helper()
	for range 2 {
		if got := m.Mark(); got != mark {
			t.Errorf("Mark() = %d; want %d", got, mark)
		}
		if got := m.Out(); !slices.Equal(got, out) {
			t.Errorf("Out() = %+v; want %+v", got, out)
		}
		for _, key := range append(names(), wrongNames()...) {
			if got, want := m.Panes(key), ofKey(there, key); !slices.Equal(got, want) {
				t.Errorf("Panes(%.30q) = %+v; want %+v", key, got, want)
			}
		}
	}
}

// looks is all that a model tells of itself, as a text.
func looks(m *Model) string {
	list := []string{fmt.Sprintf("%d %+v", m.Mark(), m.Out())}
	for _, key := range append(names(), wrongNames()...) {
		list = append(list, fmt.Sprintf("%.30q: %+v", key, m.Panes(key)))
	}
	return strings.Join(list, "\n")
}

// P13.1
func TestNewOfConfigsThatMayNotBe(t *testing.T) {
	changes := []struct {
		name string
		do   func(*api.Config)
	}{
		{"Kind below 0", func(c *api.Config) { c.Kind = -1 }},
		{"Kind above 2", func(c *api.Config) { c.Kind = 3 }},
		{"Late below 0", func(c *api.Config) { c.Late = -1 }},
		{"Late the least", func(c *api.Config) { c.Late = least }},
		{"no Shards", func(c *api.Config) { c.Shards = 0 }},
		{"Shards above 8", func(c *api.Config) { c.Shards = 9 }},
		{"no Groups", func(c *api.Config) { c.Groups = 0 }},
		{"Groups above 16", func(c *api.Config) { c.Groups = 17 }},
		{"no Cap", func(c *api.Config) { c.Cap = 0 }},
		{"Cap above 16", func(c *api.Config) { c.Cap = 17 }},
		{"all zero", func(c *api.Config) { *c = api.Config{} }},
		{"no Size, no Gap", func(c *api.Config) { c.Size, c.Gap = 0, 0 }},
		{"Size, Gap below 0", func(c *api.Config) { c.Size, c.Gap = -10, -10 }},
	}
	for _, kind := range kinds() {
		for _, row := range changes {
			c := kind
			row.do(&c)
			mayNotBe(t, row.name, c)
		}
	}
	mayNotBe(t, "Sliding without Slide", sliding(10, 0, 0))
	mayNotBe(t, "Sliding with Slide below 0", sliding(10, -5, 0))
	mayNotBe(t, "Sliding with Slide above Size", sliding(10, 11, 0))
	mayNotBe(t, "Sliding with 17 windows", sliding(17, 1, 0))
	mayNotBe(t, "Sliding with 17 windows, rounded up", sliding(33, 2, 0))
}

func mayNotBe(t *testing.T, name string, c api.Config) {
	t.Helper()
	m, err := New(c)
	if m != nil || !errors.Is(err, api.ErrConfig) {
		t.Errorf("%s: New(%+v) = %v, %v; want nil, ErrConfig", name, c, m, err)
	}
	if code, is := err.(api.Code); !is || code != api.ErrConfig {
		t.Errorf("%s: New(%+v): the error is %#v, and not ErrConfig itself", name, c, err)
	}
}

// P13.1: also by the least and the greatest of what a config may have.
func TestNew(t *testing.T) {
	low := api.Config{Kind: api.Tumbling, Size: 1, Shards: 1, Groups: 1, Cap: 1}
	high := api.Config{Kind: api.Session, Gap: most, Late: most, Shards: 8, Groups: 16, Cap: 16}
	other := session(10, 0)
	other.Size, other.Slide = -1, -1
	for _, c := range append(kinds(), low, high, other, tumbling(most, most), sliding(most, most, 0), sliding(16, 1, 0), sliding(32, 2, 0)) {
		m := made(t, c)
		stands(t, m, least, nil, nil)
		if m.Mark() != api.Least {
			t.Errorf("New(%+v): Mark() = %d", c, m.Mark())
		}
		for _, key := range names() {
			does(t, m, queryKey(key), api.OK)
			does(t, m, queryPane(key, least, most), api.OK)
		}
		does(t, m, advance(most), api.OK)
		stands(t, m, most, nil, nil)
	}
}

// P13.1
func TestTheExample(t *testing.T) {
	m := made(t, tumbling(10, 0))
	does(t, m, ingest("a", 3, 5), api.OK)
	does(t, m, advance(10), api.OK)
	does(t, m, ingest("a", 4, 6), api.Late)
	stands(t, m, 10, panes(of("a", 0, 10, 5)), nil)
}

// ops are all from -1 to 9, both ends, and some that would be others if they were cut to fewer bits.
func ops() []int {
	list := []int{math.MinInt, math.MinInt + 1, math.MinInt + 7, -255, math.MaxInt - 1, math.MaxInt}
	for op := -1; op <= 9; op++ {
		list = append(list, op)
	}
	for op := 1; op <= 7; op++ {
		list = append(list, 1<<8+op, 1<<16+op, 1<<32+op)
	}
	return list
}

func isOp(op int) bool { return op >= 1 && op <= 7 }

// P13.1: all that an Op asks for is as it may be; what it does is seen of each one alone.
func TestOps(t *testing.T) {
	for _, op := range ops() {
		m := made(t, tumbling(10, 0))
		does(t, m, ingest("a", 1, 1), api.OK)
		does(t, m, ingest("a", 13, 3), api.OK)
		x := api.Call{Op: op, Key: "a", Time: 10, Value: 7, End: 20, Group: 3, Shard: 1}
		first, second := of("a", 0, 10, 1), of("a", 10, 20, 3)
		mark, out, there := int64(least), panes(), panes(first, second)
		code, list := api.OK, panes()
		switch op {
		case 1, 2:
			there[1] = of("a", 10, 20, 3, 7)
		case 3:
			mark, out, there = 10, panes(first), panes(second)
		case 4:
			list = panes(second)
		case 5:
			list = panes(first, second)
		}
		if !isOp(op) {
			code = api.Bad
		}
		does(t, m, x, code, list...)
		stands(t, m, mark, out, there)
		if code = api.OK; op == 7 {
			code = api.Closed
		}
		does(t, m, ingest("b", 30, 1), code)
	}
}

// wrongCalls may not be by a config of 4 groups and 2 shards: each for one thing that its Op asks for.
func wrongCalls() []api.Call {
	var list []api.Call
	for _, op := range ops() {
		if !isOp(op) {
			list = append(list, api.Call{Op: op, Key: "a", Time: 3, Value: 5, End: 8})
		}
	}
	list = append(list, api.Call{})
	for _, op := range []int{1, 2, 4, 5} {
		for _, key := range wrongNames() {
			list = append(list, api.Call{Op: op, Key: key, Time: 3, Value: 5, End: 8})
		}
	}
	for _, w := range [][2]int64{{0, 0}, {10, 10}, {10, 0}, {10, 9}, {0, -1}, {most, least}, {least, least}, {most, most}} {
		list = append(list, queryPane("a", w[0], w[1]))
	}
	for _, n := range []int{math.MinInt, -1, 4, 5, 16, 256, 1 << 32, math.MaxInt} {
		list = append(list, rebalance(n, 0), rebalance(n, 1))
	}
	for _, n := range []int{math.MinInt, -1, 2, 3, 4, 8, 256, 1 << 32, math.MaxInt} {
		list = append(list, rebalance(0, n), rebalance(3, n))
	}
	return append(list, rebalance(4, 2), rebalance(-1, -1))
}

// rightCalls may be by a config of 4 groups and 2 shards: some of each Op.
func rightCalls() []api.Call {
	list := []api.Call{closing()}
	for _, at := range []int64{least, least + 1, -1, 0, 3, 14, 15, 16, 99, most - 1, most} {
		list = append(list, advance(at))
		for _, key := range names() {
			list = append(list, ingest(key, at, 1), tryIngest(key, at, 1), queryPane(key, at, most), queryKey(key))
		}
	}
	list = slices.DeleteFunc(list, func(x api.Call) bool { return x.Op == api.QueryPane && x.Time == most })
	for g := range 4 {
		list = append(list, rebalance(g, 0), rebalance(g, 1))
	}
	return append(list, queryPane("a", 0, 10), queryPane("a", 10, 20), queryPane("a", 0, 1), queryPane("b", least, most))
}

// begun is a model of which some panes went out at its watermark, 5, and some of each key will at 15.
func begun(t *testing.T, c api.Config) *Model {
	t.Helper()
	m := made(t, c)
	for i, key := range names() {
		does(t, m, ingest(key, 0, int64(i)), api.OK)
		does(t, m, tryIngest(key, 30+int64(i), int64(i)), api.OK)
	}
	does(t, m, ingest("b", -40, 9), api.OK)
	does(t, m, ingest("a", -40, 9), api.OK)
	does(t, m, advance(5), api.OK)
	if len(m.Out()) < 2 {
		t.Fatalf("%+v: at 5 Out() = %+v", c, m.Out())
	}
	return m
}

// P13.1: Bad is told ahead of all else, and nothing is done.
func TestBad(t *testing.T) {
	for _, c := range kinds() {
		m := begun(t, c)
		before := looks(m)
		for _, x := range wrongCalls() {
			does(t, m, x, api.Bad)
		}
		if after := looks(m); after != before {
			t.Errorf("Bad calls made\n%s\nof\n%s", after, before)
		}
		does(t, m, closing(), api.OK)
		for _, x := range wrongCalls() {
			does(t, m, x, api.Bad)
		}
		if after := looks(m); after != before {
			t.Errorf("Bad calls, closed, made\n%s\nof\n%s", after, before)
		}
	}
}

// P13.1: what a call may be hangs on the model's own config, and on no other one's.
func TestBadByItsConfig(t *testing.T) {
	for groups := 1; groups <= 16; groups++ {
		for shards := 1; shards <= 8; shards++ {
			c := tumbling(10, 0)
			c.Groups, c.Shards = groups, shards
			m := made(t, c)
			for g := -1; g <= 17; g++ {
				for s := -1; s <= 9; s++ {
					code := api.Bad
					if g >= 0 && g < groups && s >= 0 && s < shards {
						code = api.OK
					}
					does(t, m, rebalance(g, s), code)
				}
			}
			stands(t, m, least, nil, nil)
		}
	}
}

// P13.1: what an Op doesn't ask for plays no part.
func TestWhatPlaysNoPart(t *testing.T) {
	for _, wrong := range wrongNames() {
		m := made(t, tumbling(10, 0))
		does(t, m, api.Call{Op: 1, Key: "a", Time: 3, Value: 5, End: least, Group: -1, Shard: 99}, api.OK)
		does(t, m, api.Call{Op: 2, Key: "a", Time: 4, Value: 6, End: 3, Group: 99, Shard: -1}, api.OK)
		does(t, m, api.Call{Op: 4, Key: "a", Time: 0, End: 10, Value: 7, Group: -1, Shard: -1}, api.OK, of("a", 0, 10, 5, 6))
		does(t, m, api.Call{Op: 5, Key: "a", Time: 10, End: 0, Value: 7, Group: 99, Shard: 99}, api.OK, of("a", 0, 10, 5, 6))
		does(t, m, api.Call{Op: 6, Key: wrong, Time: 10, End: 0, Value: 7, Group: 3, Shard: 1}, api.OK)
		does(t, m, api.Call{Op: 3, Key: wrong, Time: 9, End: 0, Value: 20, Group: -1, Shard: -1}, api.OK)
		stands(t, m, 9, nil, panes(of("a", 0, 10, 5, 6)))
		does(t, m, api.Call{Op: 7, Key: wrong, Time: 99, End: 0, Value: 20, Group: -1, Shard: -1}, api.OK)
		stands(t, m, 9, nil, panes(of("a", 0, 10, 5, 6)))
	}
}

// P13.1: Closed is told of each call that may be, ahead of Stale, and nothing is done any more.
func TestClosed(t *testing.T) {
	for _, c := range kinds() {
		m := begun(t, c)
		before := looks(m)
		does(t, m, closing(), api.OK)
		for range 2 {
			for _, x := range rightCalls() {
				if !call.May(c, x) {
					t.Fatalf("%+v may not be", x)
				}
				does(t, m, x, api.Closed)
			}
			if after := looks(m); after != before {
				t.Errorf("%+v: closed, it is\n%s\nand was\n%s", c, after, before)
			}
		}
	}
}

// P13.1: at the watermark, below and above it, be it the least, the greatest, or one between.
func TestClosedAheadOfStale(t *testing.T) {
	for _, mark := range []int64{least, least + 1, 0, 7, most - 1, most} {
		m := made(t, tumbling(10, 0))
		if mark > least {
			does(t, m, advance(mark), api.OK)
			does(t, m, advance(mark), api.Stale)
		}
		does(t, m, closing(), api.OK)
		for _, at := range []int64{mark, max(mark, least+1) - 1, min(mark, most-1) + 1, least, 0, most} {
			does(t, m, advance(at), api.Closed)
			stands(t, m, mark, nil, nil)
		}
	}
}

// P13.1: a new model that is closed at once, and one that is closed behind each Op.
func TestCloseBehindEachOp(t *testing.T) {
	for _, x := range append(rightCalls(), wrongCalls()...) {
		m := made(t, tumbling(10, 0))
		r := m.Do(x)
		if x.Op == api.Close && r.Code == api.OK {
			does(t, m, closing(), api.Closed)
			continue
		}
		before := looks(m)
		does(t, m, closing(), api.OK)
		if after := looks(m); after != before {
			t.Errorf("behind %+v, Close made\n%s\nof\n%s", x, after, before)
		}
		does(t, m, closing(), api.Closed)
		does(t, m, queryKey("a"), api.Closed)
		does(t, m, ingest("a", 20, 1), api.Closed)
	}
}

// P13.1, P13.3: a Stale one changes nothing, not even on a new model.
func TestStale(t *testing.T) {
	m := made(t, tumbling(10, 0))
	does(t, m, advance(least), api.Stale)
	stands(t, m, least, nil, nil)
	does(t, m, ingest("a", 3, 5), api.OK)
	does(t, m, ingest("a", -9223372036854775800, 6), api.OK)
	low, high := of("a", -9223372036854775800, -9223372036854775790, 6), of("a", 0, 10, 5)
	does(t, m, advance(least), api.Stale)
	stands(t, m, least, nil, panes(low, high))
	rows := []struct {
		mark       int64
		out, there []api.Pane
	}{
		{least + 1, nil, panes(low, high)},
		{least + 2, nil, panes(low, high)},
		{-9223372036854775791, nil, panes(low, high)},
		{-9223372036854775790, panes(low), panes(high)},
		{-1, panes(low), panes(high)},
		{0, panes(low), panes(high)},
		{9, panes(low), panes(high)},
		{10, panes(low, high), nil},
		{11, panes(low, high), nil},
		{most - 1, panes(low, high), nil},
		{most, panes(low, high), nil},
	}
	for _, r := range rows {
		does(t, m, advance(r.mark), api.OK)
		stands(t, m, r.mark, r.out, r.there)
		for _, at := range []int64{r.mark, r.mark - 1, least + 1, least} {
			does(t, m, advance(at), api.Stale)
			stands(t, m, r.mark, r.out, r.there)
		}
	}
}

// P13.1: from each watermark to the greatest at once, and to just above it.
func TestAdvanceJustAbove(t *testing.T) {
	for _, mark := range []int64{least + 1, -10, -1, 0, 1, 10, 1 << 32, most - 2, most - 1} {
		for _, next := range []int64{mark + 1, most} {
			m := made(t, session(10, 0))
			does(t, m, advance(mark), api.OK)
			does(t, m, advance(mark), api.Stale)
			does(t, m, advance(next), api.OK)
			stands(t, m, next, nil, nil)
			does(t, m, advance(mark), api.Stale)
			does(t, m, advance(next), api.Stale)
		}
	}
	m := made(t, session(10, 0))
	does(t, m, advance(least+1), api.OK)
	stands(t, m, least+1, nil, nil)
}

// timed is a record's time, and whether it has windows.
type timed struct {
	c   api.Config
	at  int64
	has bool
}

// timeRows have times beside each other, the last that has windows and the first that has none.
func timeRows() []timed {
	return []timed{
		{tumbling(10, 0), -9223372036854775800, true},
		{tumbling(10, 0), -9223372036854775801, false},
		{tumbling(10, 0), least, false},
		{tumbling(10, 0), 9223372036854775799, true},
		{tumbling(10, 0), 9223372036854775800, false},
		{tumbling(10, 0), most, false},
		{tumbling(10, 7), 9223372036854775799, true},
		{tumbling(10, 8), 9223372036854775799, false},
		{tumbling(10, 8), 9223372036854775789, true},
		{tumbling(10, most), -1, true},
		{tumbling(10, most), 0, false},
		{tumbling(1, 0), least, true},
		{tumbling(1, 0), most - 1, true},
		{tumbling(1, 0), most, false},
		{tumbling(most, 0), most - 1, true},
		{tumbling(most, 0), most, false},
		{sliding(10, 5, 0), -9223372036854775800, true},
		{sliding(10, 5, 0), -9223372036854775801, false},
		{sliding(10, 5, 0), least, false},
		{sliding(10, 5, 0), 9223372036854775799, true},
		{sliding(10, 5, 0), 9223372036854775800, false},
		{sliding(10, 5, 3), 9223372036854775795, false},
		{sliding(10, 5, 2), 9223372036854775795, true},
		{sliding(10, 5, 0), most, false},
		{session(10, 0), least, true},
		{session(10, 0), most - 10, true},
		{session(10, 0), most - 9, false},
		{session(10, 0), most, false},
		{session(10, 5), most - 15, true},
		{session(10, 5), most - 14, false},
		{session(most, most), -most, true},
		{session(most, most), 1 - most, false},
	}
}

// puts are both Ops that put a record.
func puts() []func(key string, at, v int64) api.Call {
	return []func(string, int64, int64) api.Call{ingest, tryIngest}
}

// P13.1: by a time that has no windows nothing is put, and BadTime is told ahead of Late, at whatever watermark.
func TestRecordsOfEachTime(t *testing.T) {
	for _, put := range puts() {
		for _, r := range timeRows() {
			m := made(t, r.c)
			if r.has {
				does(t, m, put("a", r.at, 1), api.OK)
				if list := m.Panes("a"); len(list) == 0 || list[0].Span.Start > r.at || list[len(list)-1].Span.End <= r.at {
					t.Errorf("%+v: %d stands in %+v", r.c, r.at, list)
				}
				continue
			}
			for _, mark := range []int64{least, -1, 0, most} {
				if mark > least {
					does(t, m, advance(mark), api.OK)
				}
				does(t, m, put("a", r.at, 1), api.BadTime)
				stands(t, m, mark, nil, nil)
			}
		}
	}
}

// P13.1: a record is late from the watermark on at which the last of its windows is over.
func TestRecordsThatAreLate(t *testing.T) {
	rows := []struct {
		c        api.Config
		at, over int64
	}{
		{tumbling(10, 0), 0, 10}, {tumbling(10, 0), 9, 10}, {tumbling(10, 0), 10, 20}, {tumbling(10, 0), -1, 0},
		{tumbling(10, 5), 3, 15}, {tumbling(10, most), -3, most}, {tumbling(1, 0), least, least + 1}, {tumbling(1, 0), most - 1, most},
		{sliding(10, 5, 0), 7, 15}, {sliding(10, 5, 4), 4, 14}, {sliding(10, 10, 4), 4, 14}, {sliding(10, 5, 0), -3, 5},
		{session(10, 0), 0, 10}, {session(10, 0), 9, 19}, {session(10, 5), -3, 12}, {session(10, 0), most - 10, most}, {session(1, 0), least, least + 1},
	}
	for _, put := range puts() {
		for _, r := range rows {
			for _, mark := range []int64{r.over, r.over + min(1, most-r.over), most} {
				m := made(t, r.c)
				does(t, m, advance(mark), api.OK)
				does(t, m, put("a", r.at, 1), api.Late)
				stands(t, m, mark, nil, nil)
			}
			m := made(t, r.c)
			if r.over-1 > least {
				does(t, m, advance(r.over-1), api.OK)
			}
			does(t, m, put("a", r.at, 1), api.OK)
			if list := m.Panes("a"); len(list) == 0 || list[len(list)-1].Span.End+r.c.Late != r.over {
				t.Errorf("%+v: %d stands in %+v", r.c, r.at, list)
			}
			does(t, m, advance(r.over), api.OK)
			stands(t, m, r.over, m.Out(), nil)
			does(t, m, put("a", r.at, 1), api.Late)
		}
	}
}

// P13.1: a value is put into those of its windows that aren't over, at the model's own watermark.
func TestRecordsWhereSomeWindowsAreOver(t *testing.T) {
	for _, put := range puts() {
		m := made(t, sliding(10, 5, 2))
		does(t, m, put("a", 7, 1), api.OK)
		stands(t, m, least, nil, panes(of("a", 0, 10, 1), of("a", 5, 15, 1)))
		does(t, m, advance(11), api.OK)
		does(t, m, put("a", 6, 2), api.OK)
		stands(t, m, 11, nil, panes(of("a", 0, 10, 1, 2), of("a", 5, 15, 1, 2)))
		does(t, m, advance(12), api.OK)
		does(t, m, put("a", 8, 4), api.OK)
		out := panes(of("a", 0, 10, 1, 2))
		stands(t, m, 12, out, panes(of("a", 5, 15, 1, 2, 4)))
		does(t, m, put("b", 9, 8), api.OK)
		does(t, m, put("b", 4, 8), api.Late)
		stands(t, m, 12, out, panes(of("a", 5, 15, 1, 2, 4), of("b", 5, 15, 8)))
		does(t, m, advance(17), api.OK)
		stands(t, m, 17, append(out, of("a", 5, 15, 1, 2, 4), of("b", 5, 15, 8)), nil)
	}
}

// P13.1: sessions grow together till they are over; then a record of the same time begins another one, or is late.
func TestRecordsOfSessions(t *testing.T) {
	for _, put := range puts() {
		m := made(t, session(10, 5))
		does(t, m, put("a", 0, 1), api.OK)
		does(t, m, put("a", 15, 2), api.OK)
		does(t, m, put("b", 9, 32), api.OK)
		stands(t, m, least, nil, panes(of("a", 0, 10, 1), of("a", 15, 25, 2), of("b", 9, 19, 32)))
		does(t, m, advance(14), api.OK)
		does(t, m, put("a", 8, 4), api.OK)
		stands(t, m, 14, nil, panes(of("a", 0, 25, 1, 2, 4), of("b", 9, 19, 32)))
		does(t, m, advance(29), api.OK)
		stands(t, m, 29, panes(of("b", 9, 19, 32)), panes(of("a", 0, 25, 1, 2, 4)))
		does(t, m, put("a", 14, 8), api.Late)
		does(t, m, put("a", 24, 8), api.OK)
		stands(t, m, 29, panes(of("b", 9, 19, 32)), panes(of("a", 0, 34, 1, 2, 4, 8)))
		does(t, m, advance(39), api.OK)
		does(t, m, put("a", 25, 16), api.OK)
		stands(t, m, 39, panes(of("b", 9, 19, 32), of("a", 0, 34, 1, 2, 4, 8)), panes(of("a", 25, 35, 16)))
	}
}

// P13.1: one model has one group of all keys, so that it is all one to it how many Groups there are, and Shards.
func TestGroupsPlayNoPart(t *testing.T) {
	for _, kind := range kinds() {
		var want string
		for n := 1; n <= 16; n++ {
			c := kind
			c.Groups, c.Shards, c.Cap = n, 1+n%8, 17-n
			m, told := made(t, c), ""
			for i, key := range names() {
				for at := range int64(12) {
					told += fmt.Sprint(m.Do(ingest(key, at*7-int64(i), at)), m.Do(tryIngest(key, at*5, at)), m.Do(rebalance(0, 0)))
				}
				told += fmt.Sprint(m.Do(advance(int64(i*9))), m.Do(queryKey(key)), m.Do(queryPane(key, 70, 80)))
			}
			told += looks(m)
			if n == 1 {
				want = told
			}
			if told != want {
				t.Errorf("%+v: of %d groups it tells\n%s\nof one\n%s", kind, n, told, want)
			}
		}
	}
	seen := map[int]int{}
	for _, key := range names() {
		seen[fnv.Group(key, 4)]++
	}
	if len(seen) < 3 {
		t.Errorf("the keys are of %d groups alone", len(seen))
	}
}

// P13.1: in the order of timers, whatever order records came in, and whatever groups their keys are of.
func TestOrderOfWhatGoesOut(t *testing.T) {
	records := []struct {
		key string
		at  int64
	}{
		{"z", 5}, {"m", 0}, {"m", 9}, {"c", 9}, {"\x80", 9}, {"cc", 9}, {"é", 9}, {"C", 9}, {"b", 3}, {"b", 12}, {"a", 12}, {"a", 100},
	}
	want := panes(
		of("z", 5, 15, 1), of("m", 0, 19, 1, 1),
		of("C", 9, 19, 1), of("c", 9, 19, 1), of("cc", 9, 19, 1), of("\x80", 9, 19, 1), of("é", 9, 19, 1),
		of("b", 3, 22, 1, 1), of("a", 12, 22, 1), of("a", 100, 110, 1),
	)
	for seed := range int64(100) {
		r := rand.New(rand.NewSource(seed))
		r.Shuffle(len(records), func(i, j int) { records[i], records[j] = records[j], records[i] })
		once, bit := made(t, session(10, 3)), made(t, session(10, 3))
		for _, x := range records {
			does(t, once, ingest(x.key, x.at, 1), api.OK)
			does(t, bit, tryIngest(x.key, x.at, 1), api.OK)
		}
		does(t, once, advance(113), api.OK)
		stands(t, once, 113, want, nil)
		for mark, n := range map[int64]int{17: 0, 18: 1, 21: 1, 22: 7, 24: 7, 25: 9, 112: 9, 113: 10} {
			m := made(t, session(10, 3))
			for _, x := range records {
				does(t, m, ingest(x.key, x.at, 1), api.OK)
			}
			does(t, m, advance(mark), api.OK)
			stands(t, m, mark, want[:n], want[n:])
		}
		for mark := int64(1); mark <= 120; mark += 1 + r.Int63n(20) {
			does(t, bit, advance(mark), api.OK)
			n := len(bit.Out())
			stands(t, bit, mark, want[:n], want[n:])
		}
		does(t, bit, advance(121), api.OK)
		stands(t, bit, 121, want, nil)
	}
}

// P13.1: what went out earlier stands ahead, whatever its key; nothing goes out twice.
func TestOutOverManyAdvances(t *testing.T) {
	m := made(t, tumbling(10, 0))
	var out []api.Pane
	for i := range int64(40) {
		at := i * 10
		does(t, m, ingest("b", at+1, i), api.OK)
		does(t, m, tryIngest("a", at+2, -i), api.OK)
		does(t, m, ingest("c", at+15, i), api.OK)
		does(t, m, advance(at+9), api.OK)
		if got := m.Out(); !slices.Equal(got, out) {
			t.Fatalf("at %d Out() = %+v; want %+v", at+9, got, out)
		}
		does(t, m, advance(at+10), api.OK)
		out = append(out, of("a", at, at+10, -i), of("b", at, at+10, i))
		if i > 0 {
			out = append(out, of("c", at, at+10, i-1))
		}
		stands(t, m, at+10, out, panes(of("c", at+10, at+20, i)))
		does(t, m, advance(at+10), api.Stale)
		does(t, m, ingest("a", at+9, 1), api.Late)
		stands(t, m, at+10, out, panes(of("c", at+10, at+20, i)))
	}
	does(t, m, closing(), api.OK)
	stands(t, m, 400, out, panes(of("c", 400, 410, 39)))
}

// P13.1: just that window's pane, and that key's.
func TestQueryPane(t *testing.T) {
	m := made(t, sliding(10, 5, 0))
	does(t, m, ingest("a", 7, 1), api.OK)
	does(t, m, ingest("a", 12, 2), api.OK)
	does(t, m, ingest("b", 33, 4), api.OK)
	does(t, m, ingest("ab", 7, 8), api.OK)
	there := panes(of("a", 0, 10, 1), of("a", 5, 15, 1, 2), of("a", 10, 20, 2), of("b", 25, 35, 4), of("b", 30, 40, 4), of("ab", 0, 10, 8), of("ab", 5, 15, 8))
	for _, key := range names() {
		for start := int64(-12); start <= 45; start++ {
			for end := start + 1; end <= 46; end++ {
				list := slices.DeleteFunc(ofKey(there, key), func(p api.Pane) bool { return p.Span != api.Span{Start: start, End: end} })
				does(t, m, queryPane(key, start, end), api.OK, list...)
			}
		}
		for _, w := range [][2]int64{{least, most}, {least, 10}, {0, most}, {least, least + 1}, {most - 1, most}, {1 << 32, 1<<32 + 10}} {
			does(t, m, queryPane(key, w[0], w[1]), api.OK)
		}
	}
	stands(t, m, least, nil, there)
	does(t, m, queryPane("a", 0, 10), api.OK, of("a", 0, 10, 1))
	does(t, m, advance(10), api.OK)
	does(t, m, queryPane("a", 0, 10), api.OK)
	does(t, m, queryPane("a", 5, 15), api.OK, of("a", 5, 15, 1, 2))
	does(t, m, queryPane("ab", 5, 15), api.OK, of("ab", 5, 15, 8))
}

// P13.1: of sessions that grew together, the pane of the whole one alone.
func TestQueryPaneOfSessions(t *testing.T) {
	m := made(t, session(10, 0))
	does(t, m, ingest("a", 0, 1), api.OK)
	does(t, m, ingest("a", 15, 2), api.OK)
	does(t, m, queryPane("a", 0, 10), api.OK, of("a", 0, 10, 1))
	does(t, m, queryPane("a", 15, 25), api.OK, of("a", 15, 25, 2))
	does(t, m, queryPane("a", 0, 25), api.OK)
	does(t, m, ingest("a", 8, 4), api.OK)
	for _, w := range [][2]int64{{0, 10}, {15, 25}, {8, 18}, {0, 24}, {1, 25}, {-1, 25}, {0, 26}} {
		does(t, m, queryPane("a", w[0], w[1]), api.OK)
	}
	does(t, m, queryPane("a", 0, 25), api.OK, of("a", 0, 25, 1, 2, 4))
	does(t, m, queryPane("b", 0, 25), api.OK)
}

// P13.1: all of that key's, by rising windows, in whatever order they came, and none of another one's.
func TestQueryKey(t *testing.T) {
	times := []int64{-25, -11, 3, 14, 25, 38, 102}
	for seed := range int64(30) {
		rand.New(rand.NewSource(seed)).Shuffle(len(times), func(i, j int) { times[i], times[j] = times[j], times[i] })
		m := made(t, tumbling(10, 0))
		for _, at := range times {
			does(t, m, ingest("a", at, at), api.OK)
		}
		does(t, m, ingest("ab", 3, 7), api.OK)
		want := panes(of("a", -30, -20, -25), of("a", -20, -10, -11), of("a", 0, 10, 3), of("a", 10, 20, 14), of("a", 20, 30, 25), of("a", 30, 40, 38), of("a", 100, 110, 102))
		other := of("ab", 0, 10, 7)
		for range 2 {
			does(t, m, queryKey("a"), api.OK, want...)
			does(t, m, queryKey("ab"), api.OK, other)
			for _, key := range []string{"b", "A", "a\x00", "aba", "\xff"} {
				does(t, m, queryKey(key), api.OK)
			}
			stands(t, m, least, nil, append(slices.Clone(want), other))
		}
		does(t, m, advance(10), api.OK)
		does(t, m, queryKey("a"), api.OK, want[3:]...)
		does(t, m, queryKey("ab"), api.OK)
		stands(t, m, 10, panes(want[0], want[1], want[2], other), want[3:])
	}
}

// P13.1, P13.3: of each group to each shard, also the one that has it, at each time of a model's life.
func TestRebalance(t *testing.T) {
	for _, c := range kinds() {
		m := begun(t, c)
		for range 3 {
			before := looks(m)
			for g := range 4 {
				for s := range 2 {
					does(t, m, rebalance(g, s), api.OK)
					does(t, m, rebalance(g, s), api.OK)
				}
			}
			if after := looks(m); after != before {
				t.Errorf("%+v: Rebalance made\n%s\nof\n%s", c, after, before)
			}
			does(t, m, advance(m.Mark()+10), api.OK)
		}
	}
}

// R3: a reply has panes only of the two queries that are OK.
func TestRepliesWithPanes(t *testing.T) {
	for _, c := range kinds() {
		for _, mark := range []int64{0, 20, 200, most} {
			m := begun(t, c)
			for _, closed := range []bool{false, true} {
				for _, x := range append(rightCalls(), wrongCalls()...) {
					if x.Op == api.Close {
						continue
					}
					r := m.Do(x)
					query := x.Op == api.QueryPane || x.Op == api.QueryKey
					if len(r.Panes) > 0 && (!query || r.Code != api.OK) {
						t.Errorf("Do(%+v) = %+v", x, r)
					}
				}
				if !closed {
					m.Do(advance(mark))
					does(t, m, closing(), api.OK)
				}
			}
		}
	}
}

// P13.1
func TestPanes(t *testing.T) {
	m := made(t, tumbling(10, 0))
	does(t, m, ingest("a", 12, 1), api.OK)
	does(t, m, ingest("a", 2, 2), api.OK)
	does(t, m, ingest("12345678901234567890", 2, 3), api.OK)
	for _, key := range wrongNames() {
		does(t, m, ingest(key, 2, 1), api.Bad)
		if got := m.Panes(key); len(got) != 0 {
			t.Errorf("Panes(%.30q) = %+v", key, got)
		}
	}
	for _, key := range []string{"b", "A", "a\x00", "aa", "1234567890123456789", "123456789012345678900"} {
		if got := m.Panes(key); len(got) != 0 {
			t.Errorf("Panes(%q) = %+v", key, got)
		}
	}
	there := panes(of("a", 0, 10, 2), of("a", 10, 20, 1), of("12345678901234567890", 0, 10, 3))
	stands(t, m, least, nil, there)
	does(t, m, advance(10), api.OK)
	stands(t, m, 10, panes(there[2], there[0]), there[1:2])
}

// spoil writes over all that a list has, and has room for.
func spoil(l []api.Pane) {
	l = l[:cap(l)]
	for i := range l {
		l[i] = of("spoilt", -1, 99, 77)
	}
}

// P13.2: what is told may be written over, and isn't seen to change as the model does.
func TestAnswersAreNewMemory(t *testing.T) {
	for _, c := range []api.Config{tumbling(10, 0), sliding(10, 10, 0), session(10, 0)} {
		m := made(t, c)
		for _, key := range []string{"a", "b"} {
			for at := range int64(7) {
				does(t, m, ingest(key, at*20, at), api.OK)
			}
		}
		does(t, m, advance(30), api.OK)
		lists := func() [][]api.Pane {
			return [][]api.Pane{m.Out(), m.Panes("a"), m.Panes("b"), m.Do(queryKey("a")).Panes, m.Do(queryPane("a", 60, 70)).Panes}
		}
		before, told := looks(m), fmt.Sprint(lists())
		for range 2 {
			for _, l := range lists() {
				if len(l) == 0 {
					t.Fatalf("%+v: a list has no panes", c)
				}
				spoil(l)
			}
			if after := looks(m); after != before {
				t.Errorf("%+v: written over, it is\n%s\nand was\n%s", c, after, before)
			}
			if got := fmt.Sprint(lists()); got != told {
				t.Errorf("%+v: written over, it tells %s, and told %s", c, got, told)
			}
		}
		kept := lists()
		for at := range int64(7) {
			does(t, m, ingest("a", 40+at*20, 9), api.OK)
		}
		does(t, m, advance(70), api.OK)
		if got := fmt.Sprint(kept); got != told {
			t.Errorf("%+v: what was told became %s, and was %s", c, got, told)
		}
		before = looks(m)
		for _, l := range kept {
			spoil(l)
		}
		if after := looks(m); after != before {
			t.Errorf("%+v: what was told earlier, written over, made\n%s\nof\n%s", c, after, before)
		}
	}
}

// R2: a config, and a key, that are handed in are one's own to change.
func TestNothingIsKeptOfWhatIsHandedIn(t *testing.T) {
	c, key := tumbling(10, 0), []byte("a")
	m := made(t, c)
	x := ingest(string(key), 3, 1)
	does(t, m, x, api.OK)
	c.Size, c.Late, c.Groups, key[0], x.Key = 7, 100, 1, 'x', "b"
	does(t, m, ingest("a", 8, 1), api.OK)
	does(t, m, rebalance(3, 1), api.OK)
	stands(t, m, least, nil, panes(of("a", 0, 10, 1, 1)))
	does(t, m, advance(10), api.OK)
	stands(t, m, 10, panes(of("a", 0, 10, 1, 1)), nil)
}

// P13.1: two models know nothing of each other, even of one config.
func TestTwoModels(t *testing.T) {
	for _, c := range kinds() {
		one, two := made(t, c), made(t, c)
		before := looks(two)
		does(t, one, ingest("a", 0, 1), api.OK)
		does(t, one, advance(100), api.OK)
		does(t, one, closing(), api.OK)
		if after := looks(two); after != before {
			t.Errorf("%+v: the other one is\n%s\nand was\n%s", c, after, before)
		}
		does(t, two, ingest("a", 0, 2), api.OK)
		does(t, two, advance(99), api.OK)
		if list := one.Out(); list[0].Agg.Sum != 1 || two.Out()[0].Agg.Sum != 2 {
			t.Errorf("%+v: Out() = %+v, %+v", c, list, two.Out())
		}
	}
}

// P1: none panics at the ends of 64 bits, and of what a config may have; each model is none the worse for it.
func TestNoPanic(t *testing.T) {
	ends := []int64{least, least + 1, -1, 0, 1, most - 1, most}
	configs := append(kinds(),
		tumbling(1, 0), tumbling(most, 0), tumbling(most, most), tumbling(1, most),
		sliding(16, 1, 0), sliding(most, most, most), sliding(most, most/16+1, 0), sliding(1, 1, most),
		session(1, 0), session(most, 0), session(1, most), session(most, most),
	)
	for _, c := range configs {
		m := made(t, c)
		g, err := group.New(c)
		if err != nil {
			t.Fatal(err)
		}
		for _, mark := range ends {
			for _, op := range ops() {
				for _, at := range ends {
					for _, key := range append(wrongNames(), "a", "\xff") {
						x := api.Call{Op: op, Key: key, Time: at, Value: at, End: mark, Group: int(at), Shard: int(mark)}
						if op != api.Close {
							m.Do(x)
						}
						Keyed(g, x, mark)
						m.Panes(key)
					}
				}
			}
		}
		if m.Mark() != most || len(m.Panes("a"))+len(m.Panes("\xff")) != 0 {
			t.Errorf("%+v: Mark() = %d, and there are panes", c, m.Mark())
		}
	}
}
