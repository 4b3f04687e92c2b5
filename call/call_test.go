package call

import (
	"fmt"
	"math"
	"math/rand"
	"slices"
	"strings"
	"testing"

	"easel/api"
	"easel/assign"
	"easel/fnv"
	"easel/span"
)

const (
	least = math.MinInt64
	most  = math.MaxInt64
)

// ops are all that may be, and many that may not, of which some would if they were cut to fewer bits.
func ops() []int {
	list := []int{math.MinInt, math.MinInt + 1, math.MinInt + 7, math.MinInt32, -1<<32 + 1, -255, -7, -6, -2, -1}
	for op := range 20 {
		list = append(list, op)
	}
	for op := 1; op <= 7; op++ {
		list = append(list, 1<<8+op, 1<<16+op, 1<<32+op)
	}
	return append(list, math.MaxInt32, math.MaxInt-1, math.MaxInt)
}

func opsThatMayBe() []int { return []int{1, 2, 3, 4, 5, 6, 7} }

func keyedOps() []int { return []int{1, 2, 4, 5} }

// edges are numbers of which most are neither a group's nor a shard's.
func edges() []int {
	return []int{
		math.MinInt, math.MinInt + 1, math.MinInt32, -1 << 16, -256, -17, -16, -9, -8, -2, -1, 0, 1, 2, 3, 4, 6, 7, 8, 9, 14, 15, 16, 17, 18,
		255, 256, 257, 1 << 16, math.MaxInt32, 1 << 32, 1<<32 + 1, math.MaxInt - 1, math.MaxInt,
	}
}

// times are edges of windows, and of values.
func times() []int64 {
	return []int64{
		least, least + 1, math.MinInt32 - 1, math.MinInt32, -10, -1, 0, 1, 3, 9, 10, 11,
		math.MaxInt32, math.MaxInt32 + 1, 1 << 32, 1<<32 + 1, most - 1, most,
	}
}

// keys are some that may be, and some that may not.
func keys() (good, bad []string) {
	good = []string{
		"a", "user-17", "1234567890123456789", "12345678901234567890", " ", "\x00", "a\x00", "\x00a", strings.Repeat("\x00", 20), "\x7f", "\x80", "\xff",
		strings.Repeat("\xff", 20), "é", strings.Repeat("é", 10), strings.Repeat("€", 6) + "é", strings.Repeat("😀", 5), "\xc3", "\xed\xa0\x80",
	}
	bad = []string{
		"", "123456789012345678901", "1234567890123456789012", strings.Repeat("\x00", 21), strings.Repeat("\xff", 21), strings.Repeat("é", 11),
		strings.Repeat("€", 7), strings.Repeat("😀", 5) + "a", "12345678901234567890\x00", "12345678901234567890\n", strings.Repeat("a", 256), strings.Repeat("a", 257), strings.Repeat("a", 1<<16+1),
	}
	return good, bad
}

func allKeys() []string {
	good, bad := keys()
	return append(good, bad...)
}

func config(groups, shards int) api.Config {
	return api.Config{Kind: api.Sliding, Size: 10, Slide: 5, Late: 2, Shards: shards, Groups: groups, Cap: 3}
}

// configs may be: of each Kind, at both ends of what it asks for, with what it doesn't ask for as it likes.
func configs() []api.Config {
	return []api.Config{
		config(4, 2),
		{Kind: api.Tumbling, Size: 1, Shards: 1, Groups: 1, Cap: 1},
		{Kind: api.Tumbling, Size: most, Slide: -1, Gap: least, Late: most, Shards: 8, Groups: 16, Cap: 16},
		{Kind: api.Sliding, Size: 16, Slide: 1, Gap: -3, Shards: 3, Groups: 1, Cap: 16},
		{Kind: api.Sliding, Size: most, Slide: most, Late: 1, Shards: 1, Groups: 16, Cap: 1},
		{Kind: api.Session, Size: -1, Slide: least, Gap: 1, Shards: 8, Groups: 1, Cap: 2},
		{Kind: api.Session, Gap: most, Late: most, Shards: 5, Groups: 7, Cap: 4},
	}
}

// good has all that any Op asks for as it may be, by every config that may be.
func good(op int) api.Call {
	return api.Call{Op: op, Key: "user-17", Time: 3, Value: -5, End: 8}
}

// wrong are calls of an Op in each of which one thing that it asks for is as it may not be.
func wrong(c api.Config, op int) []api.Call {
	var list []api.Call
	turn := func(set func(x *api.Call)) {
		x := good(op)
		set(&x)
		list = append(list, x)
	}
	_, bad := keys()
	switch op {
	case api.Ingest, api.TryIngest, api.QueryKey, api.QueryPane:
		for _, key := range bad {
			turn(func(x *api.Call) { x.Key = key })
		}
	case api.Rebalance:
		for _, n := range []int{math.MinInt, -1, math.MaxInt} {
			turn(func(x *api.Call) { x.Group = n })
			turn(func(x *api.Call) { x.Shard = n })
		}
		turn(func(x *api.Call) { x.Group = c.Groups })
		turn(func(x *api.Call) { x.Shard = c.Shards })
	}
	if op == api.QueryPane {
		turn(func(x *api.Call) { x.End = x.Time })
		turn(func(x *api.Call) { x.End = x.Time - 1 })
		turn(func(x *api.Call) { x.Time, x.End = most, least })
	}
	return list
}

// told is a call as a text, with no more than the beginning of its key.
func told(x api.Call) string {
	key := x.Key
	x.Key = ""
	return fmt.Sprintf("%.40q of %d bytes, %+v", key, len(key), x)
}

// mays holds one answer of May, asked twice, as nothing is kept.
func mays(t *testing.T, c api.Config, x api.Call, want bool) {
	t.Helper()
	for range 2 {
		if got := May(c, x); got != want {
			t.Errorf("May(%+v, %s) = %v; want %v", c, told(x), got, want)
		}
	}
}

// groups holds one answer of Group, likewise.
func groups(t *testing.T, c api.Config, x api.Call, want int) {
	t.Helper()
	for range 2 {
		if got := Group(c, x); got != want {
			t.Errorf("Group(%+v, %s) = %d; want %d", c, told(x), got, want)
		}
	}
}

// P12.1: the numbers of Ops are written out in the other tests.
func TestNumbersOfOps(t *testing.T) {
	named := []int{api.Ingest, api.TryIngest, api.Advance, api.QueryPane, api.QueryKey, api.Rebalance, api.Close}
	if !slices.Equal(named, opsThatMayBe()) {
		t.Errorf("the Ops are %v; want 1 to 7", named)
	}
}

// P12.1: the chapter's example, of no call at all, and with all that any Op asks for.
func TestExample(t *testing.T) {
	for _, c := range configs() {
		mays(t, c, api.Call{}, false)
		mays(t, c, good(0), false)
	}
}

// P12.1: an Op that there isn't may not be, whatever stands beside it.
func TestMayOfEachOp(t *testing.T) {
	for _, c := range configs() {
		for _, op := range ops() {
			mays(t, c, good(op), op >= 1 && op <= 7)
		}
	}
}

// P12.1: with no more than an Op asks for.
func TestMayOfBareCalls(t *testing.T) {
	rows := []struct {
		x    api.Call
		want bool
	}{
		{api.Call{Op: api.Ingest, Key: "a"}, true},
		{api.Call{Op: api.TryIngest, Key: "a"}, true},
		{api.Call{Op: api.Advance}, true},
		{api.Call{Op: api.QueryPane, Key: "a", End: 1}, true},
		{api.Call{Op: api.QueryKey, Key: "a"}, true},
		{api.Call{Op: api.Rebalance}, true},
		{api.Call{Op: api.Close}, true},
		{api.Call{Op: api.Ingest}, false},
		{api.Call{Op: api.TryIngest}, false},
		{api.Call{Op: api.QueryPane}, false},
		{api.Call{Op: api.QueryPane, Key: "a"}, false},
		{api.Call{Op: api.QueryPane, End: 1}, false},
		{api.Call{Op: api.QueryKey}, false},
		{api.Call{Op: 8}, false},
		{api.Call{Op: -1}, false},
	}
	for _, c := range configs() {
		for _, r := range rows {
			mays(t, c, r.x, r.want)
		}
	}
}

// P12.1: of keys that are written out, in each Op that asks for one.
func TestMayOfKeys(t *testing.T) {
	yes, no := keys()
	for _, op := range keyedOps() {
		for _, key := range yes {
			x := good(op)
			x.Key = key
			mays(t, config(4, 2), x, true)
		}
		for _, key := range no {
			x := good(op)
			x.Key = key
			mays(t, config(4, 2), x, false)
		}
	}
}

// P12.1: it is bytes that are counted, whatever letters they make, or none.
func TestMayOfKeysByLength(t *testing.T) {
	for _, op := range keyedOps() {
		for _, unit := range []string{"a", "\x00", "\x80", "\xff", "é", "€"} {
			for n := range 2*20 + 3 {
				x := good(op)
				x.Key = strings.Repeat(unit, n)
				mays(t, config(4, 2), x, len(x.Key) >= 1 && len(x.Key) <= 20)
			}
		}
	}
}

// P12.1: a window need not be one of the config's.
func TestMayOfWindows(t *testing.T) {
	rows := []struct {
		time, end int64
		want      bool
	}{
		{0, 10, true}, {0, 1, true}, {-1, 0, true}, {-10, -5, true}, {-5, 5, true}, {3, 4, true}, {3, 8, true},
		{least, most, true}, {least, least + 1, true}, {most - 1, most, true}, {least, 0, true}, {0, most, true}, {-1, most, true}, {least, 1, true},
		{0, 0, false}, {5, 5, false}, {-5, -5, false}, {least, least, false}, {most, most, false},
		{1, 0, false}, {10, 0, false}, {-5, -10, false}, {5, -5, false}, {0, least, false}, {most, 0, false},
		{most, least, false}, {most, most - 1, false}, {least + 1, least, false}, {1 << 32, 1, false}, {1, 1 << 32, true},
	}
	for _, c := range configs() {
		for _, r := range rows {
			x := good(api.QueryPane)
			x.Time, x.End = r.time, r.end
			mays(t, c, x, r.want)
		}
	}
}

// P12.1: every edge in both places; nothing but QueryPane asks for the window.
func TestMayOfWindowsOfAllEdges(t *testing.T) {
	for _, time := range times() {
		for _, end := range times() {
			for _, op := range opsThatMayBe() {
				x := good(op)
				x.Time, x.End = time, end
				mays(t, config(4, 2), x, op != 4 || time < end)
			}
		}
	}
}

// P12.1: a key and a window are asked for both.
func TestMayOfKeysAndWindows(t *testing.T) {
	for _, key := range allKeys() {
		for _, end := range []int64{least, 2, 3, 4, most} {
			x := good(api.QueryPane)
			x.Key, x.End = key, end
			mays(t, config(4, 2), x, len(key) >= 1 && len(key) <= 20 && end > 3)
		}
	}
}

// P12.1: rows by hand, so that no reckoning here can be wrong in the program's own way.
func TestMayOfRebalance(t *testing.T) {
	rows := []struct {
		groups, shards, group, shard int
		want                         bool
	}{
		{4, 2, 0, 0, true}, {4, 2, 3, 1, true}, {4, 2, 0, 1, true}, {4, 2, 3, 0, true}, {4, 2, 1, 1, true},
		{4, 2, -1, 0, false}, {4, 2, 4, 0, false}, {4, 2, 5, 0, false}, {4, 2, math.MinInt, 0, false}, {4, 2, math.MaxInt, 0, false},
		{4, 2, 0, -1, false}, {4, 2, 0, 2, false}, {4, 2, 0, 3, false}, {4, 2, 0, math.MinInt, false}, {4, 2, 0, math.MaxInt, false},
		{4, 2, -1, -1, false}, {4, 2, 4, 2, false}, {4, 2, -1, 2, false}, {4, 2, 4, -1, false}, {4, 2, math.MinInt, math.MaxInt, false},
		{4, 2, math.MaxInt, math.MinInt, false}, {4, 2, math.MinInt, math.MinInt, false}, {4, 2, math.MaxInt, math.MaxInt, false},
		{2, 4, 1, 3, true}, {2, 4, 3, 1, false}, {2, 4, 2, 3, false}, {2, 4, 1, 4, false},
		{1, 1, 0, 0, true}, {1, 1, 1, 0, false}, {1, 1, 0, 1, false},
		{16, 8, 15, 7, true}, {16, 8, 16, 7, false}, {16, 8, 15, 8, false}, {16, 8, 7, 15, false},
		{16, 1, 15, 0, true}, {16, 1, 15, 1, false}, {1, 8, 0, 7, true}, {1, 8, 1, 7, false},
	}
	for _, r := range rows {
		mays(t, config(r.groups, r.shards), api.Call{Op: 6, Group: r.group, Shard: r.shard}, r.want)
	}
}

// P12.1: every number of groups and of shards, and every edge in both places.
func TestMayOfRebalanceOfAllEdges(t *testing.T) {
	for n := 1; n <= 16; n++ {
		for m := 1; m <= 8; m++ {
			for _, group := range append(edges(), n-1, n, n+1) {
				for _, shard := range append(edges(), m-1, m, m+1) {
					x := api.Call{Op: api.Rebalance, Group: group, Shard: shard}
					mays(t, config(n, m), x, !(group < 0) && !(group > n-1) && !(shard < 0) && !(shard > m-1))
				}
			}
		}
	}
}

// part is a thing of a call that is set to edges.
type part struct {
	set func(x *api.Call, i int)
	n   int
}

func keyPart() part {
	list := allKeys()
	return part{func(x *api.Call, i int) { x.Key = list[i] }, len(list)}
}

func timePart(at func(x *api.Call) *int64) part {
	return part{func(x *api.Call, i int) { *at(x) = times()[i] }, len(times())}
}

func numberPart(at func(x *api.Call) *int) part {
	return part{func(x *api.Call, i int) { *at(x) = edges()[i] }, len(edges())}
}

// noPart are, of each Op, the things that aren't asked for, and those of which any will do.
func noPart() map[int][]part {
	key := keyPart()
	time := timePart(func(x *api.Call) *int64 { return &x.Time })
	value := timePart(func(x *api.Call) *int64 { return &x.Value })
	end := timePart(func(x *api.Call) *int64 { return &x.End })
	group := numberPart(func(x *api.Call) *int { return &x.Group })
	shard := numberPart(func(x *api.Call) *int { return &x.Shard })
	return map[int][]part{
		api.Ingest:    {time, value, end, group, shard},
		api.TryIngest: {time, value, end, group, shard},
		api.Advance:   {key, time, value, end, group, shard},
		api.QueryPane: {value, group, shard},
		api.QueryKey:  {time, value, end, group, shard},
		api.Rebalance: {key, time, value, end},
		api.Close:     {key, time, value, end, group, shard},
	}
}

// P12.1: what an Op doesn't ask for plays no part, each by itself, whether the call may be or not.
func TestWhatPlaysNoPart(t *testing.T) {
	for _, c := range configs() {
		for op, parts := range noPart() {
			for _, p := range parts {
				for i := range p.n {
					x := good(op)
					p.set(&x, i)
					mays(t, c, x, true)
					for _, x := range wrong(c, op) {
						p.set(&x, i)
						mays(t, c, x, false)
					}
				}
			}
		}
	}
}

// P12.1: nor do any of these together.
func TestWhatPlaysNoPartTogether(t *testing.T) {
	r := rand.New(rand.NewSource(12))
	for op, parts := range noPart() {
		for range 2000 {
			set := func(x api.Call) api.Call {
				for _, p := range parts {
					p.set(&x, r.Intn(p.n))
				}
				return x
			}
			c := configs()[r.Intn(len(configs()))]
			mays(t, c, set(good(op)), true)
			for _, x := range wrong(c, op) {
				mays(t, c, set(x), false)
			}
		}
	}
}

// P12.1: Advance and Close ask for nothing that might be as it may not; Time may be any.
func TestAdvanceAndCloseMayAlwaysBe(t *testing.T) {
	for _, op := range []int{api.Advance, api.Close} {
		for _, time := range times() {
			mays(t, config(4, 2), api.Call{Op: op, Time: time}, true)
			x := api.Call{Op: op, Key: strings.Repeat("x", 21), Time: time, Value: least, End: least, Group: -1, Shard: 99}
			mays(t, config(4, 2), x, true)
			x.Key, x.End, x.Group, x.Shard = "", most, math.MaxInt, math.MinInt
			mays(t, config(4, 2), x, true)
		}
	}
}

// everyKind may be in every Kind, so that one wrong thing is all that is wrong.
func everyKind(kind int) api.Config {
	return api.Config{Kind: kind, Size: 10, Slide: 5, Gap: 3, Late: 2, Shards: 2, Groups: 4, Cap: 3}
}

// wrongConfigs have each one field that is wrong.
func wrongConfigs() []api.Config {
	list := []api.Config{{}}
	turn := func(kind int, set func(c *api.Config)) {
		c := everyKind(kind)
		set(&c)
		list = append(list, c)
	}
	for _, kind := range []int{-1, 3, 4, math.MinInt, math.MaxInt, 1 << 32} {
		turn(kind, func(*api.Config) {})
	}
	for _, n := range []int64{0, -1, -10, least} {
		turn(api.Tumbling, func(c *api.Config) { c.Size = n })
		turn(api.Sliding, func(c *api.Config) { c.Size = n })
		turn(api.Sliding, func(c *api.Config) { c.Slide = n })
		turn(api.Session, func(c *api.Config) { c.Gap = n })
	}
	for _, n := range []int64{11, 20, most} {
		turn(api.Sliding, func(c *api.Config) { c.Slide = n })
	}
	for _, n := range []int64{1, 4, 81, 85, most} { // below Slide, or more than 16 windows of a record
		turn(api.Sliding, func(c *api.Config) { c.Size = n })
	}
	for kind := range 3 {
		for _, n := range []int64{-1, -2, least} {
			turn(kind, func(c *api.Config) { c.Late = n })
		}
		for _, n := range []int{0, -1, -2, 17, 18, 1<<32 + 1, math.MinInt, math.MaxInt} {
			turn(kind, func(c *api.Config) { c.Shards = n })
			turn(kind, func(c *api.Config) { c.Groups = n })
			turn(kind, func(c *api.Config) { c.Cap = n })
		}
		turn(kind, func(c *api.Config) { c.Shards = 9 })
	}
	return list
}

// P12.1: by a config that may not be no call may be, also where nothing of the config is needed.
func TestMayOfWrongConfigs(t *testing.T) {
	for kind := range 3 {
		for _, op := range ops() {
			mays(t, everyKind(kind), good(op), op >= 1 && op <= 7)
		}
	}
	for _, c := range wrongConfigs() {
		for _, op := range ops() {
			mays(t, c, good(op), false)
		}
	}
}

// P12.1: nor may a Rebalance be to what there would be by such a config.
func TestRebalanceOfWrongConfigs(t *testing.T) {
	for _, c := range wrongConfigs() {
		for _, group := range append(edges(), c.Groups) {
			for _, shard := range append(edges(), c.Shards) {
				mays(t, c, api.Call{Op: api.Rebalance, Group: group, Shard: shard}, false)
			}
		}
	}
}

// P12.1: it goes by the Op alone.
func TestKeyed(t *testing.T) {
	_, bad := keys()
	for _, op := range ops() {
		want := op == 1 || op == 2 || op == 4 || op == 5
		list := []api.Call{{Op: op}, good(op), {Op: op, Time: most, Value: least, End: least, Group: -1, Shard: math.MaxInt}}
		for _, key := range bad {
			list = append(list, api.Call{Op: op, Key: key})
		}
		for _, x := range list {
			for range 2 {
				if got := Keyed(x); got != want {
					t.Errorf("Keyed(%s) = %v; want %v", told(x), got, want)
				}
			}
		}
	}
}

// P12.1: of a keyed call, groups that are written out, also of keys that may not be, and of no groups.
func TestGroupOfKeyed(t *testing.T) {
	rows := []struct {
		key       string
		n, answer int
	}{
		{"a", 2, 0}, {"a", 7, 5}, {"a", 16, 12}, {"a", 1, 0}, {"key", 7, 4}, {"user-17", 2, 1}, {"user-17", 7, 5}, {"user-17", 16, 9},
		{"\xff", 16, 14}, {"é", 7, 2}, {"", 7, 2}, {"", 16, 5}, {"123456789012345678901", 16, 4},
		{"user-17", 0, 0}, {"user-17", -1, 0}, {"user-17", -7, 0}, {"user-17", math.MinInt, 0}, {"", 0, 0}, {"", -16, 0},
		{"a", 17, 2}, {"user-17", 17, 8},
	}
	for _, r := range rows {
		for _, op := range keyedOps() {
			for group := -2; group <= 17; group++ {
				groups(t, config(r.n, 2), api.Call{Op: op, Key: r.key, Group: group}, r.answer)
				groups(t, api.Config{Groups: r.n}, api.Call{Op: op, Key: r.key, Group: group, Shard: group, Time: 5}, r.answer)
			}
		}
	}
}

// P12.1: it is layer 5's group of the key, whatever else there is.
func TestGroupIsThatOfLayer5(t *testing.T) {
	all := append(edges(), 5, 10, 11, 12, 13)
	for _, key := range allKeys() {
		for _, n := range all {
			want := fnv.Group(key, n)
			for _, op := range keyedOps() {
				groups(t, config(n, 2), api.Call{Op: op, Key: key, Group: 3}, want)
			}
		}
	}
	for _, c := range append(configs(), wrongConfigs()...) {
		for _, op := range keyedOps() {
			x := good(op)
			x.Group, x.Shard, x.End = -1, -1, least
			groups(t, c, x, fnv.Group("user-17", c.Groups))
		}
	}
}

// P12.1: of Rebalance its Group, whatever it is, by whatever config.
func TestGroupOfRebalance(t *testing.T) {
	for _, c := range append(configs(), wrongConfigs()...) {
		for _, group := range edges() {
			for _, shard := range edges() {
				groups(t, c, api.Call{Op: 6, Group: group, Shard: shard}, group)
				groups(t, c, api.Call{Op: 6, Key: "user-17", Group: group, Shard: shard}, group)
			}
		}
	}
}

// P12.1: of every other Op, -1, whatever stands in it.
func TestGroupOfOthers(t *testing.T) {
	for _, c := range append(configs(), wrongConfigs()...) {
		for _, op := range ops() {
			if op == 1 || op == 2 || op == 4 || op == 5 || op == 6 {
				continue
			}
			groups(t, c, good(op), -1)
			for _, group := range edges() {
				groups(t, c, api.Call{Op: op, Group: group}, -1)
				groups(t, c, api.Call{Op: op, Key: "a", Group: group, Shard: group, Time: 1, End: 2}, -1)
			}
		}
	}
}

func pane(key string, start, end int64, count int) api.Pane {
	return api.Pane{Key: key, Span: api.Span{Start: start, End: end}, Agg: api.Agg{Count: count, Sum: 6, Min: -1, Max: 4}}
}

// some are panes of which each one is another.
func some() []api.Pane {
	return []api.Pane{pane("a", 0, 10, 3), pane("a", 10, 20, 2), pane("b", 0, 10, 3), pane("\xff", -5, 5, 1)}
}

func reply(code int, panes ...api.Pane) api.Reply { return api.Reply{Code: code, Panes: panes} }

// sames asks both ways round, twice.
func sames(t *testing.T, a, b api.Reply, want bool) {
	t.Helper()
	for range 2 {
		if got := Same(a, b); got != want {
			t.Errorf("Same(%#v, %#v) = %v; want %v", a, b, got, want)
		}
		a, b = b, a
	}
}

// P12.2: replies that were made each by itself, and the very same one.
func TestSame(t *testing.T) {
	for code := api.OK; code <= api.Bad; code++ {
		for n := range some() {
			one, two := reply(code, some()[:n]...), reply(code, some()[:n]...)
			for i := range two.Panes {
				two.Panes[i].Key = strings.Clone(two.Panes[i].Key)
			}
			sames(t, one, two, true)
			sames(t, one, one, true)
		}
	}
}

// P12.2: any other Code is another reply, with panes and with none.
func TestSameOfCodes(t *testing.T) {
	all := append(edges(), 5, 6)
	for i, a := range all {
		for j, b := range all {
			sames(t, reply(a), reply(b), i == j || a == b)
			sames(t, reply(a, some()...), reply(b, some()...), i == j || a == b)
		}
	}
}

// P12.2: nil and an empty list are the same, and neither is a pane, not even a zero one.
func TestSameOfNone(t *testing.T) {
	none := []api.Reply{{}, {Panes: nil}, {Panes: []api.Pane{}}, {Panes: make([]api.Pane, 0, 5)}, {Panes: some()[:0]}, {Panes: some()[4:]}}
	for _, a := range none {
		for _, b := range none {
			sames(t, a, b, true)
			b.Code = api.Late
			sames(t, a, b, false)
		}
		sames(t, a, reply(0, api.Pane{}), false)
		sames(t, a, reply(0, some()...), false)
		sames(t, a, reply(0, some()[0]), false)
	}
}

// P12.2: one pane more, at each place, also one that stands beside it already, or a zero one.
func TestSameOfOnePaneMore(t *testing.T) {
	for n := range some() {
		list := some()[:n+1]
		for at := range len(list) + 1 {
			for _, more := range []api.Pane{{}, pane("c", 0, 10, 1), list[0], list[n], list[max(0, at-1)], list[min(n, at)]} {
				longer := slices.Insert(slices.Clone(list), at, more)
				sames(t, reply(0, list...), reply(0, longer...), false)
				sames(t, reply(0, longer...), reply(0, slices.Clone(longer)...), true)
			}
		}
	}
}

// orders are all orders of panes.
func orders(list []api.Pane) [][]api.Pane {
	if len(list) == 0 {
		return [][]api.Pane{nil}
	}
	var all [][]api.Pane
	for i, first := range list {
		rest := slices.Delete(slices.Clone(list), i, i+1)
		for _, order := range orders(rest) {
			all = append(all, append([]api.Pane{first}, order...))
		}
	}
	return all
}

// P12.2: of all orders of four panes each is the same as itself alone.
func TestSameOfOrders(t *testing.T) {
	all := orders(some())
	if len(all) != 24 {
		t.Fatalf("%d orders of four panes; want 24", len(all))
	}
	for i, a := range all {
		for j, b := range all {
			sames(t, reply(0, a...), reply(0, b...), i == j)
		}
	}
}

// P12.2: two panes of which one is there twice, the other way about.
func TestSameOfPanesThatAreThereTwice(t *testing.T) {
	a, b := some()[0], some()[1]
	sames(t, reply(0, a, a, b), reply(0, a, b, b), false)
	sames(t, reply(0, a, a, b), reply(0, a, b, a), false)
	sames(t, reply(0, a, a), reply(0, a), false)
	sames(t, reply(0, a, b), reply(0, a, a), false)
	sames(t, reply(0, a, a, b), reply(0, a, a, b), true)
}

// numbersOf are a pane's numbers.
func numbersOf(p *api.Pane) []*int64 {
	return []*int64{&p.Span.Start, &p.Span.End, &p.Agg.Sum, &p.Agg.Min, &p.Agg.Max}
}

// P12.2: a pane that differs in one of its fields, at each place of a list.
func TestSameOfPanesThatDiffer(t *testing.T) {
	for at := range some() {
		differs := func(what string, set func(p *api.Pane)) {
			t.Helper()
			other := some()
			set(&other[at])
			if other[at] == some()[at] {
				t.Fatalf("%s of pane %d stays", what, at)
			}
			sames(t, reply(0, some()...), reply(0, other...), false)
			sames(t, reply(0, some()[at]), reply(0, other[at]), false)
		}
		for _, key := range []string{"", "c", "A", "a\x00", "b ", "\xfe", "\xef\xbf\xbd", "\xff\xff"} {
			differs("Key", func(p *api.Pane) { p.Key = key })
		}
		for _, by := range []int{1, -1, 1 << 8, 1 << 16, 1 << 32, math.MinInt} {
			differs("Count", func(p *api.Pane) { p.Agg.Count += by })
		}
		for i := range numbersOf(&api.Pane{}) {
			for _, by := range []int64{1, -1, 1 << 8, 1 << 16, 1 << 32, 1 << 53, least} {
				differs("a number", func(p *api.Pane) { *numbersOf(p)[i] += by })
			}
		}
	}
}

// P12.2: numbers that only change places within a pane, or between two, make another one.
func TestSameOfNumbersThatChangePlaces(t *testing.T) {
	base := api.Pane{Key: "a", Span: api.Span{Start: 1, End: 2}, Agg: api.Agg{Count: 3, Sum: 4, Min: 5, Max: 6}}
	for i := range numbersOf(&base) {
		for j := range i {
			p := base
			n := numbersOf(&p)
			*n[i], *n[j] = *n[j], *n[i]
			sames(t, reply(0, base), reply(0, p), false)
		}
		p, q := base, base
		*numbersOf(&p)[i]++
		*numbersOf(&q)[i]--
		sames(t, reply(0, p, q), reply(0, q, p), false)
		sames(t, reply(0, p, q), reply(0, base, base), false)
	}
	sames(t, reply(0, pane("a", 0, 10, 1), pane("b", 0, 10, 1)), reply(0, pane("ab", 0, 10, 1), pane("", 0, 10, 1)), false)
}

// P12.2: where lists share memory it is what they hold that counts.
func TestSameOfSharedMemory(t *testing.T) {
	list := some()
	sames(t, reply(0, list...), reply(0, list...), true)
	sames(t, reply(0, list[:3]...), reply(0, list[:3:3]...), true)
	sames(t, reply(0, list[:3]...), reply(0, list...), false)
	sames(t, reply(0, list[1:]...), reply(0, list[:3]...), false)
	sames(t, reply(0, list[1:3]...), reply(0, list[1:3]...), true)
	sames(t, reply(0, list[:1]...), reply(0, list[1:2]...), false)
	sames(t, reply(0, list...), reply(1, list...), false)
	p := some()[0]
	alike := []api.Pane{p, p, p}
	sames(t, reply(0, alike[:2]...), reply(0, alike[1:]...), true)
	sames(t, reply(0, alike[:2]...), reply(0, alike...), false)
	sames(t, reply(0, alike[:0]...), reply(0, alike[3:]...), true)
}

// P12.2: every two lists of up to three panes, with two Codes, held against what they look like as texts.
func TestSameAgainstTexts(t *testing.T) {
	var all []api.Reply
	var add func(list []api.Pane)
	add = func(list []api.Pane) {
		all = append(all, reply(0, slices.Clone(list)...), reply(1, slices.Clone(list)...))
		if len(list) == 3 {
			return
		}
		for _, p := range some()[:3] {
			add(append(slices.Clone(list), p))
		}
	}
	add(nil)
	if len(all) != 80 {
		t.Fatalf("%d replies; want 80", len(all))
	}
	for _, a := range all {
		for _, b := range all {
			sames(t, a, b, fmt.Sprintf("%#v", a.Panes) == fmt.Sprintf("%#v", b.Panes) && a.Code == b.Code)
		}
	}
}

// R2: what is handed in stays, also what lies behind a list's end; calls and configs hold nothing that could be changed.
func TestSameChangesNothing(t *testing.T) {
	for n := range len(some()) + 1 {
		for m := range len(some()) + 1 {
			one, two := some(), some()
			slices.Reverse(two)
			a, b := reply(3, one[:n]...), reply(4, two[:m]...)
			for range 2 {
				Same(a, b)
				a.Code = 4
			}
			back := some()
			slices.Reverse(back)
			if !slices.Equal(one, some()) || !slices.Equal(two, back) {
				t.Errorf("of %d and %d panes, Same left %v and %v", n, m, one, two)
			}
			if len(a.Panes) != n || len(b.Panes) != m || b.Code != 4 {
				t.Errorf("of %d and %d panes, Same left replies %v and %v", n, m, a, b)
			}
		}
	}
}

// R2: nothing is kept: lists that are written over are asked for anew.
func TestSameKeepsNothing(t *testing.T) {
	a, b := reply(0, some()...), reply(0, some()...)
	for i := range a.Panes {
		sames(t, a, b, true)
		a.Panes[i].Agg.Sum++
		sames(t, a, b, false)
		b.Panes[i].Agg.Sum++
	}
	sames(t, a, b, true)
}

// manyKeys are keys that may be, of all lengths.
func manyKeys() []string {
	list, _ := keys()
	r := rand.New(rand.NewSource(7))
	for range 300 {
		key := make([]byte, 1+r.Intn(20))
		r.Read(key)
		list = append(list, string(key))
	}
	return list
}

// P12.3: the group of a keyed call that may be is one of the config's, and the same whatever the Op and its Value.
func TestGroupOfKeyedThatMayBe(t *testing.T) {
	for n := 1; n <= 16; n++ {
		seen := make([]int, n)
		for _, key := range manyKeys() {
			c := config(n, 1+n%8)
			first := Group(c, api.Call{Op: api.Ingest, Key: key})
			for _, op := range keyedOps() {
				x := good(op)
				x.Key = key
				mays(t, c, x, true)
				groups(t, c, x, first)
				x.Value, x.Group, x.Shard = most, 99, -1
				groups(t, c, x, first)
			}
			if first < 0 || first >= n {
				t.Fatalf("Group of %q is %d, of %d groups", key, first, n)
			}
			seen[first]++
		}
		if slices.Contains(seen, 0) {
			t.Errorf("of %d groups, some have none of many keys: %v", n, seen)
		}
	}
}

// P12.3: likewise that of each Rebalance that may be; of all there are, just one for each group and shard.
func TestGroupOfRebalanceThatMayBe(t *testing.T) {
	for n := 1; n <= 16; n++ {
		for m := 1; m <= 8; m++ {
			c, count := config(n, m), 0
			for group := -3; group <= 20; group++ {
				for shard := -3; shard <= 12; shard++ {
					x := api.Call{Op: api.Rebalance, Group: group, Shard: shard}
					if !May(c, x) {
						continue
					}
					count++
					if got := Group(c, x); got < 0 || got >= n || got != group {
						t.Errorf("Group(%+v, %+v) = %d; want %d", c, x, got, group)
					}
				}
			}
			if count != n*m {
				t.Errorf("of %d groups and %d shards, %d calls may be; want %d", n, m, count, n*m)
			}
		}
	}
}

// P12.3: any other Value changes neither what may be, nor its group.
func TestValuePlaysNoPart(t *testing.T) {
	for _, c := range configs() {
		for _, op := range ops() {
			for _, x := range append(wrong(c, op), good(op)) {
				may, group := May(c, x), Group(c, x)
				for _, value := range times() {
					x.Value = value
					mays(t, c, x, may)
					groups(t, c, x, group)
				}
			}
		}
	}
}

// plainMay is the chapter's words, of a config and a call.
func plainMay(c api.Config, x api.Call) bool {
	key := fnv.May(x.Key)
	switch {
	case !assign.May(c):
		return false
	case x.Op == 1, x.Op == 2, x.Op == 5:
		return key
	case x.Op == 4:
		return key && span.May(api.Span{Start: x.Time, End: x.End})
	case x.Op == 6:
		return x.Group >= 0 && x.Group < c.Groups && x.Shard >= 0 && x.Shard < c.Shards
	}
	return x.Op == 3 || x.Op == 7
}

func plainGroup(c api.Config, x api.Call) int {
	if slices.Contains(keyedOps(), x.Op) {
		return fnv.Group(x.Key, c.Groups)
	}
	if x.Op == 6 {
		return x.Group
	}
	return -1
}

// P12.1, P12.3, P1: calls of any edges, by configs of any, held against the words; none panics.
func TestRandomCalls(t *testing.T) {
	r := rand.New(rand.NewSource(35))
	all, texts := append(configs(), wrongConfigs()...), allKeys()
	number := func() int { return edges()[r.Intn(len(edges()))] }
	time := func() int64 { return times()[r.Intn(len(times()))] }
	mayBe := 0
	for range 100000 {
		c := all[r.Intn(len(all))]
		if r.Intn(2) == 0 {
			c = config(1+r.Intn(16), 1+r.Intn(8))
		}
		x := api.Call{Op: r.Intn(9), Key: texts[r.Intn(len(texts))], Time: time(), Value: time(), End: time(), Group: r.Intn(18) - 1, Shard: r.Intn(10) - 1}
		if r.Intn(4) == 0 {
			x.Op, x.Group, x.Shard = ops()[r.Intn(len(ops()))], number(), number()
		}
		want, group := plainMay(c, x), plainGroup(c, x)
		mays(t, c, x, want)
		groups(t, c, x, group)
		if got := Keyed(x); got != slices.Contains(keyedOps(), x.Op) {
			t.Errorf("Keyed(%s) = %v", told(x), got)
		}
		if want && (slices.Contains(keyedOps(), x.Op) || x.Op == 6) && (group < 0 || group >= c.Groups) {
			t.Errorf("Group(%+v, %s) = %d, which there isn't", c, told(x), group)
		}
		if want {
			mayBe++
		}
	}
	if mayBe < 10000 || mayBe > 90000 {
		t.Errorf("%d calls of 100000 may be; both kinds should be many", mayBe)
	}
}
