package shard

import (
	"errors"
	"math"
	"slices"
	"strconv"
	"strings"
	"testing"

	"easel/api"
	"easel/box"
	"easel/fnv"
	"easel/group"
)

const (
	least = math.MinInt64
	most  = math.MaxInt64
)

func tumbling(size, late int64) api.Config {
	return api.Config{Kind: api.Tumbling, Size: size, Late: late, Shards: 2, Groups: 4, Cap: 8}
}

func sliding(size, slide, late int64) api.Config {
	return api.Config{Kind: api.Sliding, Size: size, Slide: slide, Late: late, Shards: 2, Groups: 4, Cap: 8}
}

func session(gap, late int64) api.Config {
	return api.Config{Kind: api.Session, Gap: gap, Late: late, Shards: 2, Groups: 4, Cap: 8}
}

// kinds are a config of each kind.
func kinds() []api.Config {
	return []api.Config{tumbling(10, 5), sliding(10, 5, 5), session(10, 5)}
}

// key is the i-th key of the n-th group of so many.
func key(groups, n, i int) string {
	for k := 0; ; k++ {
		name := "k" + strconv.Itoa(k)
		if fnv.Group(name, groups) != n {
			continue
		}
		if i == 0 {
			return name
		}
		i--
	}
}

// names are two keys of each of so many groups.
func names(groups int) []string {
	var list []string
	for n := range groups {
		list = append(list, key(groups, n, 0), key(groups, n, 1))
	}
	return list
}

// wrongNames are keys that may not be: of 0 bytes, of 21, and of more.
func wrongNames() []string {
	return []string{"", "123456789012345678901", strings.Repeat("\xff", 21), strings.Repeat("é", 11), strings.Repeat("a", 300)}
}

func ingest(key string, at, v int64) api.Call {
	return api.Call{Op: api.Ingest, Key: key, Time: at, Value: v}
}

func tryIngest(key string, at, v int64) api.Call {
	return api.Call{Op: api.TryIngest, Key: key, Time: at, Value: v}
}

// puts are both ways to put a record.
func puts() []func(string, int64, int64) api.Call {
	return []func(string, int64, int64) api.Call{ingest, tryIngest}
}

func queryPane(key string, start, end int64) api.Call {
	return api.Call{Op: api.QueryPane, Key: key, Time: start, End: end}
}

func queryKey(key string) api.Call { return api.Call{Op: api.QueryKey, Key: key} }

// keyed are a call of each keyed Op, that may be, of a key.
func keyed(key string) []api.Call {
	return []api.Call{ingest(key, 33, 4), tryIngest(key, 33, 4), queryPane(key, 0, 10), queryKey(key)}
}

func ask(x api.Call) Msg { return Msg{Kind: Ask, From: 3, Call: x} }

func marking() Msg { return Msg{Kind: Mark} }

func give(n int) Msg { return Msg{Kind: Give, Group: n} }

func have(n int, state *group.Group) Msg { return Msg{Kind: Have, Group: n, State: state} }

// of is a pane of a key's window that has these values.
func of(key string, start, end int64, values ...int64) api.Pane {
	a := api.Agg{Count: len(values), Min: slices.Min(values), Max: slices.Max(values)}
	for _, v := range values {
		a.Sum += v
	}
	return api.Pane{Key: key, Span: api.Span{Start: start, End: end}, Agg: a}
}

func panes(l ...api.Pane) []api.Pane { return l }

func told(code int, list ...api.Pane) api.Reply { return api.Reply{Code: code, Panes: list} }

// marks are watermarks, the least and the greatest among them.
func marks() []int64 { return []int64{least, least + 1, -1, 0, 10, 15, 30, most - 1, most} }

// spoil writes over a list, up to its cap.
func spoil(l []api.Pane) {
	l = l[:cap(l)]
	for i := range l {
		l[i] = of("spoiled", -77, 77, 77)
	}
}

func spoilInts(l []int) {
	l = l[:cap(l)]
	for i := range l {
		l[i] = 77
	}
}

// upTo are the numbers below n.
func upTo(n int) []int {
	var list []int
	for i := range n {
		list = append(list, i)
	}
	return list
}

func made(t *testing.T, c api.Config, groups ...int) *Worker {
	t.Helper()
	w, err := New(c, groups)
	if err != nil || w == nil {
		t.Fatalf("New(%+v, %v) = %v, %v", c, groups, w, err)
	}
	return w
}

func sent(t *testing.T, w *Worker, m Msg) {
	t.Helper()
	if err := w.Box().Put(m); err != nil {
		t.Fatalf("Put(%+v): %v", m, err)
	}
}

func same(a, b Did) bool {
	return a.Msg == b.Msg && a.Moved == b.Moved && a.Reply.Code == b.Reply.Code && slices.Equal(a.Reply.Panes, b.Reply.Panes) &&
		slices.Equal(a.Out, b.Out) && a.State == b.State
}

// steps does a step, and holds all that it tells; then it writes over that.
func steps(t *testing.T, w *Worker, mark int64, closed bool, want Did) {
	t.Helper()
	got, is := w.Step(mark, closed)
	if !is || !same(got, want) {
		t.Errorf("Step(%d, %t) = %+v, %t; want %+v", mark, closed, got, is, want)
	}
	spoil(got.Reply.Panes)
	spoil(got.Out)
}

// does puts a message into an empty mailbox, and does a step; the message is what is wanted besides.
func does(t *testing.T, w *Worker, m Msg, mark int64, closed bool, want Did) {
	t.Helper()
	sent(t, w, m)
	want.Msg = m
	steps(t, w, mark, closed, want)
	if n := w.Box().Len(); n != 0 {
		t.Errorf("behind %+v there are %d messages", m, n)
	}
}

// ofKey are those panes of a list that are a key's.
func ofKey(list []api.Pane, key string) []api.Pane {
	return slices.DeleteFunc(slices.Clone(list), func(p api.Pane) bool { return p.Key != key })
}

// ofGroups are those panes of a list whose keys are of these groups, by a config.
func ofGroups(c api.Config, list []api.Pane, groups ...int) []api.Pane {
	return slices.DeleteFunc(slices.Clone(list), func(p api.Pane) bool { return !slices.Contains(groups, fnv.Group(p.Key, c.Groups)) })
}

// counts holds what a worker tells without a message.
func counts(t *testing.T, w *Worker, groups []int, n int) {
	t.Helper()
	for range 2 {
		if got := w.Len(); got != n {
			t.Errorf("Len() = %d; want %d", got, n)
		}
		got := w.Groups()
		if !slices.Equal(got, groups) {
			t.Errorf("Groups() = %v; want %v", got, groups)
		}
		spoilInts(got)
	}
}

// stands holds all that a worker has, its mailbox being empty: the panes of the keys of names, by rising windows of each.
func stands(t *testing.T, c api.Config, w *Worker, groups []int, there ...api.Pane) {
	t.Helper()
	counts(t, w, groups, len(there))
	for _, name := range names(c.Groups) {
		want := Did{Reply: told(api.OK, ofKey(there, name)...)}
		if !slices.Contains(groups, fnv.Group(name, c.Groups)) {
			want = Did{Moved: true}
		}
		// At the least watermark no window is over.
		does(t, w, ask(queryKey(name)), least, false, want)
	}
	counts(t, w, groups, len(there))
}

// lists are lists of groups: none, all of 4, and others.
func lists() [][]int {
	return [][]int{nil, {}, {0}, {3}, {0, 1, 2, 3}, {3, 1, 3}, {-1, 99}, {math.MinInt, 2, math.MaxInt}}
}

// P14.1
func TestNewOfConfigsThatMayNotBe(t *testing.T) {
	changes := []struct {
		name string
		do   func(*api.Config)
	}{
		{"Kind below 0", func(c *api.Config) { c.Kind = -1 }},
		{"Kind above 2", func(c *api.Config) { c.Kind = 3 }},
		{"Late below 0", func(c *api.Config) { c.Late = -1 }},
		{"Late the least", func(c *api.Config) { c.Late = least }},
		{"no Shards", func(c *api.Config) { c.Shards = 0 }},
		{"Shards below 0", func(c *api.Config) { c.Shards = -1 }},
		{"Shards above 8", func(c *api.Config) { c.Shards = 9 }},
		{"no Groups", func(c *api.Config) { c.Groups = 0 }},
		{"Groups below 0", func(c *api.Config) { c.Groups = -1 }},
		{"Groups above 16", func(c *api.Config) { c.Groups = 17 }},
		{"no Cap", func(c *api.Config) { c.Cap = 0 }},
		{"Cap below 0", func(c *api.Config) { c.Cap = -1 }},
		{"Cap above 16", func(c *api.Config) { c.Cap = 17 }},
		{"Cap the greatest", func(c *api.Config) { c.Cap = math.MaxInt }},
		{"all zero", func(c *api.Config) { *c = api.Config{} }},
		{"no Size, no Gap", func(c *api.Config) { c.Size, c.Gap = 0, 0 }},
		{"Size, Gap below 0", func(c *api.Config) { c.Size, c.Gap = -10, -10 }},
	}
	for _, kind := range kinds() {
		for _, row := range changes {
			c := kind
			row.do(&c)
			mayNotBe(t, row.name, c)
		}
	}
	mayNotBe(t, "Sliding without Slide", sliding(10, 0, 0))
	mayNotBe(t, "Sliding with Slide below 0", sliding(10, -5, 0))
	mayNotBe(t, "Sliding with Slide above Size", sliding(10, 11, 0))
	mayNotBe(t, "Sliding with 17 windows", sliding(17, 1, 0))
	mayNotBe(t, "Sliding with 17 windows, rounded up", sliding(33, 2, 0))
}

func mayNotBe(t *testing.T, name string, c api.Config) {
	t.Helper()
	for _, groups := range lists() {
		w, err := New(c, groups)
		if w != nil || !errors.Is(err, api.ErrConfig) {
			t.Errorf("%s: New(%+v, %v) = %v, %v; want nil, ErrConfig", name, c, groups, w, err)
		}
		if code, is := err.(api.Code); !is || code != api.ErrConfig {
			t.Errorf("%s: New(%+v, %v): the error is %#v, and not ErrConfig itself", name, c, groups, err)
		}
	}
}

// P14.1: also by the least and the greatest of what a config may have.
func TestNew(t *testing.T) {
	low := api.Config{Kind: api.Tumbling, Size: 1, Shards: 1, Groups: 1, Cap: 1}
	high := api.Config{Kind: api.Session, Gap: most, Late: most, Shards: 8, Groups: 16, Cap: 16}
	other := session(10, 0)
	other.Size, other.Slide = -1, -1
	for _, c := range append(kinds(), low, high, other, tumbling(most, most), sliding(most, most, 0), sliding(16, 1, 0), sliding(32, 2, 0)) {
		stands(t, c, made(t, c), nil)
		stands(t, c, made(t, c, upTo(c.Groups)...), upTo(c.Groups))
		for n := range c.Groups {
			w := made(t, c, n)
			stands(t, c, w, []int{n})
			does(t, w, marking(), most, false, Did{})
			stands(t, c, w, []int{n})
		}
	}
}

// P14.1: rising, each once, and those alone that there are.
func TestGroupsOfANewOne(t *testing.T) {
	for _, row := range []struct {
		groups int
		list   []int
		want   []int
	}{
		{4, nil, nil},
		{4, []int{}, nil},
		{4, []int{0}, []int{0}},
		{4, []int{3}, []int{3}},
		{4, []int{0, 1, 2, 3}, []int{0, 1, 2, 3}},
		{4, []int{3, 2, 1, 0}, []int{0, 1, 2, 3}},
		{4, []int{2, 0, 2, 2, 0}, []int{0, 2}},
		{4, []int{1, 1}, []int{1}},
		{4, []int{-1}, nil},
		{4, []int{4}, nil},
		{4, []int{math.MinInt}, nil},
		{4, []int{math.MaxInt}, nil},
		{4, []int{-1, 4, math.MinInt, math.MaxInt, 5, 16, -4, 256, 1 << 32}, nil},
		{4, []int{4, 3, -1, 0, math.MinInt, 0, math.MaxInt, 5, 1}, []int{0, 1, 3}},
		{1, []int{1, 0, -1}, []int{0}},
		{1, []int{1, 2, 3}, nil},
		{16, []int{16, 15, 9, 10, 1, 2, 15, 17}, []int{1, 2, 9, 10, 15}},
		{16, []int{15, 14, 13, 12, 11, 10, 9, 8, 7, 6, 5, 4, 3, 2, 1, 0}, upTo(16)},
	} {
		for _, c := range kinds() {
			c.Groups = row.groups
			stands(t, c, made(t, c, row.list...), row.want)
		}
	}
}

// P14.1: each set of 4 groups, with ones that there aren't, and some twice.
func TestEachSetOfGroups(t *testing.T) {
	c := tumbling(10, 0)
	for set := range 16 {
		var list, want []int
		for n := range 4 {
			list = append(list, 4+n, -1-n)
			if set>>n&1 == 1 {
				list, want = append(list, n, n), append(want, n)
			}
		}
		stands(t, c, made(t, c, list...), want)
		slices.Reverse(list)
		stands(t, c, made(t, c, list...), want)
	}
}

// R2: the list that is handed in is neither changed nor kept.
func TestNewKeepsNoList(t *testing.T) {
	list := append(make([]int, 0, 8), 2, 9, 0, -1, 2)
	before := slices.Clone(list[:cap(list)])
	w := made(t, tumbling(10, 0), list...)
	if !slices.Equal(list[:cap(list)], before) {
		t.Errorf("New made the list %v of %v", list[:cap(list)], before)
	}
	list[0] = 1
	stands(t, tumbling(10, 0), w, []int{0, 2})
	spoilInts(list)
	stands(t, tumbling(10, 0), w, []int{0, 2})
	does(t, w, give(0), 0, false, Did{State: w.groups[0]})
	if slices.Contains(list, 2) || slices.Contains(list, 0) {
		t.Errorf("the worker made the list %v", list)
	}
}

// P14.1: each Cap is the room.
func TestBox(t *testing.T) {
	for room := 1; room <= 16; room++ {
		c := tumbling(10, 0)
		c.Cap = room
		w := made(t, c, 1)
		var b *box.Box[Msg] = w.Box()
		if b == nil || b.Len() != 0 || b.Closed() {
			t.Fatalf("of Cap %d: the mailbox is %+v", room, b)
		}
		for i := range room {
			if err := b.Put(Msg{From: i}); err != nil {
				t.Errorf("of Cap %d: Put of message %d: %v", room, i, err)
			}
		}
		if err := b.Put(Msg{From: room}); err == nil || err != error(api.ErrFull) {
			t.Errorf("of Cap %d: Put of one more: %v", room, err)
		}
		if w.Box() != b || b.Len() != room {
			t.Errorf("of Cap %d: Box() is another one, or there are %d", room, b.Len())
		}
		for i := range room {
			steps(t, w, 0, false, Did{Msg: Msg{From: i}})
		}
		counts(t, w, []int{1}, 0)
	}
}

// P14.1: workers have nothing together.
func TestTwoWorkers(t *testing.T) {
	c := tumbling(10, 0)
	one, two := made(t, c, 0, 1), made(t, c, 0, 1)
	if one.Box() == two.Box() {
		t.Error("two workers have one mailbox")
	}
	a := key(4, 0, 0)
	does(t, one, ask(ingest(a, 3, 5)), least, false, Did{Reply: told(api.OK)})
	does(t, two, give(1), least, false, Did{State: two.groups[1]})
	stands(t, c, one, []int{0, 1}, of(a, 0, 10, 5))
	stands(t, c, two, []int{0})
}

// filled has groups 0 to 3, of Tumbling 10, and panes of two keys of each: of the first ones those of 0 to 10, and of
// 20 to 30; of the others that of 10 to 20.
func filled(t *testing.T, groups ...int) *Worker {
	t.Helper()
	w := made(t, tumbling(10, 0), groups...)
	for _, n := range w.Groups() {
		does(t, w, ask(ingest(key(4, n, 0), 25, 7)), least, false, Did{})
		does(t, w, ask(tryIngest(key(4, n, 1), 12, -2)), least, false, Did{})
		does(t, w, ask(ingest(key(4, n, 0), 3, int64(n))), least, false, Did{})
	}
	return w
}

// full are the panes of a group of filled, in the order in which they go out.
func full(groups ...int) []api.Pane {
	var list []api.Pane
	for _, n := range groups {
		a, b := key(4, n, 0), key(4, n, 1)
		list = append(list, of(a, 0, 10, int64(n)), of(b, 10, 20, -2), of(a, 20, 30, 7))
	}
	return list
}

// over tells how many panes of a group of filled are, at each watermark.
func over() map[int64]int {
	return map[int64]int{least: 0, -1: 0, 0: 0, 9: 0, 10: 1, 11: 1, 19: 1, 20: 2, 29: 2, 30: 3, most - 1: 3, most: 3}
}

// P14.1: a zero Did, and nothing is changed, whatever is over.
func TestStepOfAnEmptyMailbox(t *testing.T) {
	c := tumbling(10, 0)
	for _, w := range []*Worker{made(t, c), made(t, c, 1), filled(t, 0, 1, 2, 3), filled(t, 2)} {
		groups, n := w.Groups(), w.Len()
		for _, mark := range marks() {
			for _, closed := range []bool{false, true} {
				got, is := w.Step(mark, closed)
				if is || !same(got, Did{}) {
					t.Errorf("Step(%d, %t) = %+v, %t; want a zero one, false", mark, closed, got, is)
				}
				counts(t, w, groups, n)
			}
		}
		if w.Box().Closed() || w.Box().Len() != 0 {
			t.Errorf("the mailbox is %+v", w.Box())
		}
		stands(t, c, w, groups, full(withPanes(w, n)...)...)
	}
}

// withPanes are the groups of a worker that have panes, if any of them has.
func withPanes(w *Worker, n int) []int {
	if n == 0 {
		return nil
	}
	return w.Groups()
}

// P14.1: behind its last message, the mailbox is empty once more; one that is closed too.
func TestStepBehindTheLast(t *testing.T) {
	w := filled(t, 0, 1, 2, 3)
	sent(t, w, ask(queryKey(key(4, 1, 1))))
	sent(t, w, marking())
	if !w.Box().Close() {
		t.Error("the mailbox was closed")
	}
	steps(t, w, 0, false, Did{Msg: ask(queryKey(key(4, 1, 1))), Reply: told(api.OK, of(key(4, 1, 1), 10, 20, -2))})
	steps(t, w, 0, false, Did{Msg: marking()})
	for range 3 {
		if got, is := w.Step(most, false); is || !same(got, Did{}) {
			t.Errorf("Step = %+v, %t; want a zero one, false", got, is)
		}
	}
	if !w.Box().Closed() {
		t.Error("the mailbox isn't closed any more")
	}
	counts(t, w, []int{0, 1, 2, 3}, 12)
}

// P14.1: the first one first, one a step, with what is put in between.
func TestTheOrderOfMessages(t *testing.T) {
	c := tumbling(10, 0)
	c.Cap = 5
	w := made(t, c, 0, 1, 2, 3)
	a := key(4, 2, 0)
	list := []Msg{
		ask(ingest(a, 3, 5)), ask(queryKey(a)), ask(ingest(a, 4, 6)), ask(queryKey(a)), give(2), ask(queryKey(a)),
		have(2, nil), ask(queryKey(a)), marking(), give(2), {From: 1}, {From: 2, Kind: 9}, {From: 3},
	}
	state := w.groups[2]
	wants := []Did{
		{}, {Reply: told(api.OK, of(a, 0, 10, 5))}, {}, {Reply: told(api.OK, of(a, 0, 10, 5, 6))}, {State: state}, {Moved: true},
		{}, {Moved: true}, {}, {}, {}, {}, {},
	}
	next := 0
	for i, m := range list {
		want := wants[i]
		want.Msg = m
		for next < len(list) && w.Box().Put(list[next]) == nil {
			next++
		}
		if n := w.Box().Len(); n != min(5, len(list)-i) {
			t.Errorf("ahead of message %d there are %d", i, n)
		}
		steps(t, w, 0, false, want)
		if n := w.Box().Len(); n != min(4, len(list)-i-1) {
			t.Errorf("behind message %d there are %d", i, n)
		}
	}
	counts(t, w, []int{0, 1, 3}, 0)
}

// P14.1: the message is told as it is, whatever stands in it.
func TestTheMessageIsTold(t *testing.T) {
	state, err := group.New(tumbling(10, 0))
	if err != nil {
		t.Fatal(err)
	}
	for _, kind := range []int{Ask, Mark, Give, Have, 0, 5, -1, math.MinInt, math.MaxInt} {
		for _, from := range []int{0, 1, -1, 99, math.MinInt, math.MaxInt} {
			for _, closed := range []bool{false, true} {
				m := Msg{
					Kind: kind, From: from, Group: 2, State: state,
					Call: api.Call{Op: api.QueryKey, Key: key(4, 3, 0), Time: 4, Value: -5, End: 6, Group: -7, Shard: 8},
				}
				w, want := made(t, tumbling(10, 0), 2, 3), Did{}
				switch {
				case kind == Ask && closed:
					want.Reply.Code = api.Closed
				case kind == Give:
					want.State = w.groups[2]
				}
				does(t, w, m, 0, closed, want)
			}
		}
	}
}

// P14.1
func TestTheExample(t *testing.T) {
	for n := range 4 {
		groups := slices.DeleteFunc(upTo(4), func(g int) bool { return g == n })
		w := made(t, tumbling(10, 0), groups...)
		does(t, w, ask(queryKey(key(4, n, 0))), 0, false, Did{Moved: true})
	}
}

// state is a group of a key's panes.
func state(t *testing.T, c api.Config, name string, times ...int64) *group.Group {
	t.Helper()
	g, err := group.New(c)
	if err != nil {
		t.Fatal(err)
	}
	for _, at := range times {
		g.Take(name, at, 1, least)
	}
	return g
}

// The numbers of the kinds of messages.
func TestKinds(t *testing.T) {
	if Ask != 1 || Mark != 2 || Give != 3 || Have != 4 {
		t.Errorf("Ask, Mark, Give, Have are %d, %d, %d, %d", Ask, Mark, Give, Have)
	}
}
