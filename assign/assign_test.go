package assign

import (
	"math"
	"math/big"
	"slices"
	"testing"

	"easel/api"
	"easel/span"
)

const (
	least = math.MinInt64
	most  = math.MaxInt64
)

func window(start, end int64) api.Span { return api.Span{Start: start, End: end} }

func tumbling(size, late int64) api.Config {
	return api.Config{Kind: api.Tumbling, Size: size, Late: late, Shards: 2, Groups: 4, Cap: 3}
}

func sliding(size, slide, late int64) api.Config {
	return api.Config{Kind: api.Sliding, Size: size, Slide: slide, Late: late, Shards: 2, Groups: 4, Cap: 3}
}

func session(gap, late int64) api.Config {
	return api.Config{Kind: api.Session, Gap: gap, Late: late, Shards: 2, Groups: 4, Cap: 3}
}

type turn struct {
	name string
	set  func(c *api.Config, n int64)
}

var (
	kind   = turn{"Kind", func(c *api.Config, n int64) { c.Kind = int(n) }}
	size   = turn{"Size", func(c *api.Config, n int64) { c.Size = n }}
	slide  = turn{"Slide", func(c *api.Config, n int64) { c.Slide = n }}
	gap    = turn{"Gap", func(c *api.Config, n int64) { c.Gap = n }}
	late   = turn{"Late", func(c *api.Config, n int64) { c.Late = n }}
	shards = turn{"Shards", func(c *api.Config, n int64) { c.Shards = int(n) }}
	groups = turn{"Groups", func(c *api.Config, n int64) { c.Groups = int(n) }}
	room   = turn{"Cap", func(c *api.Config, n int64) { c.Cap = int(n) }}
)

// bounds have of one field, all others being good, numbers that may be and numbers that may not.
type bounds struct {
	of        api.Config
	field     turn
	good, bad []int64
}

// shared are the bounds of the fields that play the same part in every Kind.
func shared(c api.Config) []bounds {
	return []bounds{
		{c, late, []int64{0, 1, 1 << 32, most - 1, most}, []int64{-1, -2, least + 1, least}},
		{c, shards, []int64{1, 2, 7, 8}, []int64{0, -1, 9, 16, 1 << 32, least, most}},
		{c, groups, []int64{1, 2, 15, 16}, []int64{0, -1, 17, 1<<32 + 1, least, most}},
		{c, room, []int64{1, 2, 15, 16}, []int64{0, -1, 17, 1<<32 + 1, least, most}},
	}
}

// everyKind has fields that are good in every Kind, so that a wrong Kind is all that is wrong.
func everyKind(kind int) api.Config {
	return api.Config{Kind: kind, Size: 10, Slide: 4, Gap: 3, Late: 2, Shards: 1, Groups: 1, Cap: 1}
}

func allBounds() []bounds {
	list := []bounds{
		{everyKind(0), kind, []int64{0, 1, 2}, []int64{-1, 3, 4, -2, 1 << 32, least, most}},
		{tumbling(10, 2), size, []int64{1, 2, 1 << 40, most}, []int64{0, -1, -10, least}},
		{sliding(10, 4, 2), size, []int64{4, 5, 63, 64}, []int64{3, 1, 0, -1, 65, 66, 68, most, least}},
		{sliding(10, 4, 2), slide, []int64{1, 9, 10}, []int64{0, -1, -4, 11, 12, most, least}},
		{sliding(32, 4, 2), slide, []int64{2, 3, 31, 32}, []int64{1, 0, 33}},
		{sliding(33, 4, 2), slide, []int64{3, 33}, []int64{2, 1, 34}},
		{sliding(1, 1, 0), size, []int64{1, 15, 16}, []int64{0, 17}},
		{sliding(most, most, 0), slide, []int64{1 << 59, 1<<59 + 1, 1 << 62, most}, []int64{1<<59 - 1, 1 << 58, 1, 0, -1, least}},
		{sliding(1<<59, 1<<58, 0), size, []int64{1 << 58, 1 << 62}, []int64{1<<62 + 1, 1<<58 - 1, most}},
		{session(3, 2), gap, []int64{1, 2, 1 << 40, most}, []int64{0, -1, -3, least}},
	}
	for k := api.Tumbling; k <= api.Session; k++ {
		list = append(list, shared(everyKind(k))...)
	}
	return list
}

// P3.1, R1, R3: of a config that may not be, Of tells ErrConfig at every time, even where the windows wouldn't fit.
func TestBoundsOfFields(t *testing.T) {
	for _, b := range allBounds() {
		for _, n := range b.good {
			c := b.of
			b.field.set(&c, n)
			if !May(c) {
				t.Errorf("May(%+v) = false, %s may be %d", c, b.field.name, n)
			}
			if _, err := Of(c, 0); err == api.ErrConfig {
				t.Errorf("Of(%+v, 0) = %v, %s may be %d", c, err, b.field.name, n)
			}
		}
		for _, n := range b.bad {
			c := b.of
			b.field.set(&c, n)
			if May(c) {
				t.Errorf("May(%+v) = true, %s may not be %d", c, b.field.name, n)
			}
			for _, time := range []int64{least, -3, 0, 7, most} {
				if list, err := Of(c, time); len(list) != 0 || err != api.ErrConfig {
					t.Errorf("Of(%+v, %d) = %v, %v; want %v", c, time, list, err, api.ErrConfig)
				}
			}
		}
	}
}

// P3.1: the zero config has a Size of 0, no shards, no groups and no room.
func TestZeroConfig(t *testing.T) {
	if May(api.Config{}) {
		t.Error("the zero config may be")
	}
	if list, err := Of(api.Config{}, 0); len(list) != 0 || err != api.ErrConfig {
		t.Errorf("Of(zero config, 0) = %v, %v; want %v", list, err, api.ErrConfig)
	}
}

// P3.1: Size, Slide and Gap play no part where they aren't named.
func TestFieldsThatPlayNoPart(t *testing.T) {
	rows := []struct {
		c      api.Config
		fields []turn
		want   []api.Span
	}{
		{tumbling(10, 2), []turn{slide, gap}, []api.Span{window(-10, 0)}},
		{sliding(10, 5, 2), []turn{gap}, []api.Span{window(-10, 0), window(-5, 5)}},
		{session(3, 2), []turn{size, slide}, []api.Span{window(-3, 0)}},
	}
	for _, r := range rows {
		for _, field := range r.fields {
			for _, n := range []int64{least, -1, 0, 1, 2, 100, most} {
				c := r.c
				field.set(&c, n)
				if !May(c) {
					t.Errorf("May(%+v) = false, but %s plays no part", c, field.name)
				}
				if list, err := Of(c, -3); !slices.Equal(list, r.want) || err != nil {
					t.Errorf("Of(%+v, -3) = %v, %v; want %v, but %s plays no part", c, list, err, r.want, field.name)
				}
			}
		}
	}
}

// P3.1: Shards, Groups and Cap must be good, but don't change what is told.
func TestWindowsHangOnNoCount(t *testing.T) {
	for k := api.Tumbling; k <= api.Session; k++ {
		c := everyKind(k)
		want, err := Of(c, 9)
		if len(want) == 0 || err != nil {
			t.Fatalf("Of(%+v, 9) = %v, %v", c, want, err)
		}
		c.Shards, c.Groups, c.Cap = api.MaxShards, api.MaxGroups, api.MaxCap
		if list, err := Of(c, 9); !slices.Equal(list, want) || err != nil {
			t.Errorf("Of(%+v, 9) = %v, %v; want %v", c, list, err, want)
		}
	}
}

type row struct {
	c    api.Config
	time int64
	want []api.Span
}

func checkRows(t *testing.T, rows []row) {
	t.Helper()
	for _, r := range rows {
		if list, err := Of(r.c, r.time); !slices.Equal(list, r.want) || err != nil {
			t.Errorf("Of(%+v, %d) = %v, %v; want %v", r.c, r.time, list, err, r.want)
		}
	}
}

// P3.1
func TestTumbling(t *testing.T) {
	checkRows(t, []row{
		{tumbling(10, 0), 0, []api.Span{window(0, 10)}},
		{tumbling(10, 0), 5, []api.Span{window(0, 10)}},
		{tumbling(10, 0), 9, []api.Span{window(0, 10)}},
		{tumbling(10, 0), 10, []api.Span{window(10, 20)}},
		{tumbling(10, 0), -1, []api.Span{window(-10, 0)}},
		{tumbling(10, 0), -10, []api.Span{window(-10, 0)}},
		{tumbling(10, 0), -11, []api.Span{window(-20, -10)}},
		{tumbling(10, 1000), 5, []api.Span{window(0, 10)}},
		{tumbling(1, 0), 7, []api.Span{window(7, 8)}},
		{tumbling(1, 0), -7, []api.Span{window(-7, -6)}},
		{tumbling(1000000007, 5), 3000000020, []api.Span{window(2000000014, 3000000021)}},
		{tumbling(1000000007, 5), 3000000021, []api.Span{window(3000000021, 4000000028)}},
	})
}

// P3.1: the last rows have a Slide that doesn't divide Size, and Slide at Size.
func TestSliding(t *testing.T) {
	checkRows(t, []row{
		{sliding(10, 5, 0), -3, []api.Span{window(-10, 0), window(-5, 5)}},
		{sliding(10, 5, 0), 0, []api.Span{window(-5, 5), window(0, 10)}},
		{sliding(10, 5, 0), 4, []api.Span{window(-5, 5), window(0, 10)}},
		{sliding(10, 5, 0), 5, []api.Span{window(0, 10), window(5, 15)}},
		{sliding(10, 5, 0), 9, []api.Span{window(0, 10), window(5, 15)}},
		{sliding(10, 5, 0), 10, []api.Span{window(5, 15), window(10, 20)}},
		{sliding(10, 5, 9), -5, []api.Span{window(-10, 0), window(-5, 5)}},
		{sliding(10, 5, 9), -6, []api.Span{window(-15, -5), window(-10, 0)}},
		{sliding(3, 1, 0), 0, []api.Span{window(-2, 1), window(-1, 2), window(0, 3)}},
		{sliding(10, 4, 0), 7, []api.Span{window(0, 10), window(4, 14)}},
		{sliding(10, 4, 0), 8, []api.Span{window(0, 10), window(4, 14), window(8, 18)}},
		{sliding(10, 4, 0), 9, []api.Span{window(0, 10), window(4, 14), window(8, 18)}},
		{sliding(10, 4, 0), 10, []api.Span{window(4, 14), window(8, 18)}},
		{sliding(10, 4, 0), -3, []api.Span{window(-12, -2), window(-8, 2), window(-4, 6)}},
		{sliding(10, 4, 0), -2, []api.Span{window(-8, 2), window(-4, 6)}},
		{sliding(5, 4, 0), 3, []api.Span{window(0, 5)}},
		{sliding(5, 4, 0), 4, []api.Span{window(0, 5), window(4, 9)}},
		{sliding(5, 4, 0), 5, []api.Span{window(4, 9)}},
		{sliding(10, 9, 0), -9, []api.Span{window(-18, -8), window(-9, 1)}},
		{sliding(10, 9, 0), -8, []api.Span{window(-9, 1)}},
		{sliding(10, 10, 0), 9, []api.Span{window(0, 10)}},
		{sliding(10, 10, 0), 10, []api.Span{window(10, 20)}},
		{sliding(10, 10, 0), -1, []api.Span{window(-10, 0)}},
		{sliding(1, 1, 0), -7, []api.Span{window(-7, -6)}},
	})
}

// P3.1
func TestSession(t *testing.T) {
	checkRows(t, []row{
		{session(3, 0), 0, []api.Span{window(0, 3)}},
		{session(3, 0), 7, []api.Span{window(7, 10)}},
		{session(3, 0), -1, []api.Span{window(-1, 2)}},
		{session(3, 0), -3, []api.Span{window(-3, 0)}},
		{session(3, 1000), -8, []api.Span{window(-8, -5)}},
		{session(1, 0), 7, []api.Span{window(7, 8)}},
		{session(10, 0), least, []api.Span{window(least, least+10)}},
	})
}

// P3.1: 16 windows are the most; a greater Size has one more, and so may not be.
func TestMostWindows(t *testing.T) {
	for _, step := range []int64{1, 4, 10, 1 << 30} {
		for _, time := range []int64{0, step - 1, -1, 7 * step, -7 * step} {
			list, err := Of(sliding(16*step, step, 0), time)
			if len(list) != api.MaxPer || err != nil {
				t.Errorf("Of Size %d, Slide %d, the time %d are %d windows, %v; want %d", 16*step, step, time, len(list), err, api.MaxPer)
			}
			list, err = Of(sliding(16*step+1, step, 0), time)
			if len(list) != 0 || err != api.ErrConfig {
				t.Errorf("Of(Size %d, Slide %d, %d) = %v, %v; want %v", 16*step+1, step, time, list, err, api.ErrConfig)
			}
		}
	}
}

// edge is a time whose windows just fit, and one beside it, or a Late one greater, at which one of them doesn't.
type edge struct {
	name       string
	fits       api.Config
	time       int64
	want       []api.Span
	beyond     api.Config
	beyondTime int64
}

// tumblingEdges: the least int64 is 8 below a multiple of 10 and 3 below one of 5; the greatest is 7 above a multiple of 10 and 2 above one of 5.
func tumblingEdges() []edge {
	c := tumbling(10, 0)
	return []edge{
		{name: "Start", fits: c, time: least + 8, want: []api.Span{window(least+8, least+18)}, beyond: c, beyondTime: least + 7},
		{name: "Start of 2^63", fits: tumbling(1<<62, 0), time: least, want: []api.Span{window(least, -1<<62)}, beyond: tumbling(1<<62+1, 0), beyondTime: least},
		{name: "End", fits: c, time: most - 8, want: []api.Span{window(most-17, most-7)}, beyond: c, beyondTime: most - 7},
		{name: "End at the greatest", fits: tumbling(7, 0), time: most - 1, want: []api.Span{window(most-7, most)}, beyond: tumbling(7, 0), beyondTime: most},
		{name: "End and Late", fits: tumbling(10, 7), time: most - 8, want: []api.Span{window(most-17, most-7)}, beyond: tumbling(10, 8), beyondTime: most - 8},
		{name: "greatest Late", fits: tumbling(10, most), time: -1, want: []api.Span{window(-10, 0)}, beyond: tumbling(10, most), beyondTime: 0},
		{name: "greatest Late but one", fits: tumbling(1, most-1), time: 0, want: []api.Span{window(0, 1)}, beyond: tumbling(1, most-1), beyondTime: 1},
		{name: "greatest Size", fits: tumbling(most, 0), time: 0, want: []api.Span{window(0, most)}, beyond: tumbling(most, 1), beyondTime: 0},
		{name: "End of the greatest Size", fits: tumbling(most, 0), time: most - 1, want: []api.Span{window(0, most)}, beyond: tumbling(most, 0), beyondTime: most},
		{name: "Start of the greatest Size", fits: tumbling(most, most), time: least + 1, want: []api.Span{window(least+1, 0)}, beyond: tumbling(most, most), beyondTime: least},
	}
}

// slidingEdges have, beside those of all windows, ones where the first window or the last alone doesn't fit.
func slidingEdges() []edge {
	c, odd := sliding(10, 5, 0), sliding(7, 5, 0)
	return []edge{
		{name: "Start of the first alone", fits: c, time: least + 8, want: []api.Span{window(least+3, least+13), window(least+8, least+18)}, beyond: c, beyondTime: least + 7},
		{name: "Start of a first that hasn't the time", fits: odd, time: least + 5, want: []api.Span{window(least+3, least+10)}, beyond: odd, beyondTime: least + 4},
		{name: "Start of all", fits: odd, time: least + 6, want: []api.Span{window(least+3, least+10)}, beyond: odd, beyondTime: least + 2},
		{name: "Start at the least", fits: sliding(1<<62, 1<<61, 0), time: least + 1<<61, want: []api.Span{window(least, -1<<62), window(least+1<<61, -1<<61)}, beyond: sliding(1<<62, 1<<61, 0), beyondTime: least + 1<<61 - 1},
		{name: "End of the last alone", fits: c, time: most - 8, want: []api.Span{window(most-17, most-7), window(most-12, most-2)}, beyond: c, beyondTime: most - 7},
		{name: "End of all", fits: c, time: most - 9, want: []api.Span{window(most-17, most-7), window(most-12, most-2)}, beyond: c, beyondTime: most},
		{name: "End and Late of the last alone", fits: sliding(10, 5, 2), time: most - 8, want: []api.Span{window(most-17, most-7), window(most-12, most-2)}, beyond: sliding(10, 5, 3), beyondTime: most - 8},
		{name: "End and Late of all", fits: sliding(10, 5, 2), time: most - 8, want: []api.Span{window(most-17, most-7), window(most-12, most-2)}, beyond: sliding(10, 5, 8), beyondTime: most - 8},
		{name: "greatest Late", fits: sliding(10, 5, most), time: -6, want: []api.Span{window(-15, -5), window(-10, 0)}, beyond: sliding(10, 5, most), beyondTime: -5},
		{name: "greatest Late of all", fits: sliding(10, 5, most), time: -10, want: []api.Span{window(-15, -5), window(-10, 0)}, beyond: sliding(10, 5, most), beyondTime: 0},
		{name: "greatest Size and Slide", fits: sliding(most, most, 0), time: 0, want: []api.Span{window(0, most)}, beyond: sliding(most, most, 1), beyondTime: 0},
		{name: "Slide just below the greatest Size", fits: sliding(most, most-1, 1), time: -1, want: []api.Span{window(-most+1, 1)}, beyond: sliding(most, most-1, 1), beyondTime: 0},
		{name: "Start below the greatest Size", fits: sliding(most, most-1, 1), time: least + 3, want: []api.Span{window(-most+1, 1)}, beyond: sliding(most, most-1, 1), beyondTime: least + 2},
	}
}

func sessionEdges() []edge {
	return []edge{
		{name: "End", fits: session(3, 0), time: most - 3, want: []api.Span{window(most-3, most)}, beyond: session(3, 0), beyondTime: most - 2},
		{name: "End of the greatest time", fits: session(1, 0), time: most - 1, want: []api.Span{window(most-1, most)}, beyond: session(1, 0), beyondTime: most},
		{name: "End and Late", fits: session(3, 2), time: most - 5, want: []api.Span{window(most-5, most-2)}, beyond: session(3, 2), beyondTime: most - 4},
		{name: "Late", fits: session(3, 2), time: most - 5, want: []api.Span{window(most-5, most-2)}, beyond: session(3, 3), beyondTime: most - 5},
		{name: "greatest Late", fits: session(3, most), time: -3, want: []api.Span{window(-3, 0)}, beyond: session(3, most), beyondTime: -2},
		{name: "greatest Gap", fits: session(most, 0), time: 0, want: []api.Span{window(0, most)}, beyond: session(most, 0), beyondTime: 1},
		{name: "greatest Gap and Late", fits: session(most, most), time: -most, want: []api.Span{window(-most, 0)}, beyond: session(most, most), beyondTime: -most + 1},
		{name: "least time", fits: session(most, most), time: least, want: []api.Span{window(least, -1)}, beyond: session(most, 1), beyondTime: 0},
	}
}

// P3.1, R3
func TestEdgesOfInt64(t *testing.T) {
	for _, e := range slices.Concat(tumblingEdges(), slidingEdges(), sessionEdges()) {
		if list, err := Of(e.fits, e.time); !slices.Equal(list, e.want) || err != nil {
			t.Errorf("%s: Of(%+v, %d) = %v, %v; want %v", e.name, e.fits, e.time, list, err, e.want)
		}
		if list, err := Of(e.beyond, e.beyondTime); len(list) != 0 || err != api.ErrRange {
			t.Errorf("%s: Of(%+v, %d) = %v, %v; want %v", e.name, e.beyond, e.beyondTime, list, err, api.ErrRange)
		}
	}
}

// P3.1: windows of the greatest Size may begin from the least int64, 16 Slides below 0, up to 0, from where on one has its End at the greatest.
func TestMostWindowsOfTheGreatestSize(t *testing.T) {
	c := sliding(most, 1<<59, 0)
	var all []api.Span
	for i := int64(-16); i <= 0; i++ {
		all = append(all, window(i<<59, i<<59+most))
	}
	// The first of all ends at -1, and the one ahead of it, whose Start doesn't fit, a Slide lower.
	checkRows(t, []row{{c, 0, all[1:]}, {c, 1<<59 - 1, all[2:]}, {c, -1, all[1:16]}, {c, -2, all[:16]}, {c, -1<<59 - 1, all[:15]}})
	for _, time := range []int64{1 << 59, most, -1<<59 - 2, least, least + 1} {
		if list, err := Of(c, time); len(list) != 0 || err != api.ErrRange {
			t.Errorf("Of(%+v, %d) = %v, %v; want %v", c, time, list, err, api.ErrRange)
		}
	}
}

// exactSpan is a window of integers that need not fit into 64 bits.
type exactSpan struct{ start, end *big.Int }

// exactMultiples goes through the multiples near the time one by one, as the chapter tells the windows.
func exactMultiples(t, size, slide int64) []exactSpan {
	var list []exactSpan
	time, step := big.NewInt(t), big.NewInt(slide)
	near := new(big.Int).Div(time, step)
	for d := int64(-api.MaxPer - 2); d <= 2; d++ {
		start := new(big.Int).Add(near, big.NewInt(d))
		start.Mul(start, step)
		end := new(big.Int).Add(start, big.NewInt(size))
		if start.Cmp(time) <= 0 && time.Cmp(end) < 0 {
			list = append(list, exactSpan{start, end})
		}
	}
	return list
}

func exactWindows(c api.Config, t int64) []exactSpan {
	switch c.Kind {
	case api.Tumbling:
		return exactMultiples(t, c.Size, c.Size)
	case api.Sliding:
		return exactMultiples(t, c.Size, c.Slide)
	}
	time := big.NewInt(t)
	return []exactSpan{{time, new(big.Int).Add(time, big.NewInt(c.Gap))}}
}

func exactOf(c api.Config, t int64) ([]api.Span, error) {
	if !exactMay(c) {
		return nil, api.ErrConfig
	}
	var list []api.Span
	for _, s := range exactWindows(c, t) {
		over := new(big.Int).Add(s.end, big.NewInt(c.Late))
		if !s.start.IsInt64() || !s.end.IsInt64() || !over.IsInt64() {
			return nil, api.ErrRange
		}
		list = append(list, window(s.start.Int64(), s.end.Int64()))
	}
	return list, nil
}

// exactMay asks of the counts only what the configs below have wrong in them.
func exactMay(c api.Config) bool {
	if c.Late < 0 || c.Shards < 1 {
		return false
	}
	switch c.Kind {
	case api.Tumbling:
		return c.Size > 0
	case api.Sliding:
		room := new(big.Int).Mul(big.NewInt(api.MaxPer), big.NewInt(c.Slide))
		return c.Slide > 0 && c.Slide <= c.Size && big.NewInt(c.Size).Cmp(room) <= 0
	case api.Session:
		return c.Gap > 0
	}
	return false
}

// numbers are small ones and those around which sums and multiples stop to fit.
func numbers() []int64 {
	list := []int64{
		-1<<62 - 1, -1 << 62, -1<<62 + 1, -1 << 59, -100, -17, -5, -1, 0, 1, 2, 3, 4, 5, 7, 9, 10, 15, 16, 17, 80, 81,
		1<<58 + 1, 1<<59 - 1, 1 << 59, 1<<59 + 1, 1<<62 - 1, 1 << 62, 1<<62 + 1,
	}
	for d := int64(0); d <= 20; d++ {
		list = append(list, least+d, most-d)
	}
	return list
}

// configs are good and wrong ones of every Kind.
func configs() []api.Config {
	var list []api.Config
	sizes := []int64{least, -1, 0, 1, 2, 3, 5, 7, 10, 16, 17, 80, 81, 1 << 58, 1<<58 + 1, 1<<59 - 1, 1 << 59, 1 << 62, 1<<62 + 1, most - 1, most}
	for _, late := range []int64{least, -1, 0, 1, 2, 8, 1 << 62, most - 1, most} {
		for _, size := range sizes {
			list = append(list, tumbling(size, late), session(size, late))
			for _, slide := range sizes {
				list = append(list, sliding(size, slide, late))
			}
		}
	}
	return append(list, api.Config{}, api.Config{Kind: 3, Size: 10, Slide: 5, Gap: 3, Shards: 1, Groups: 1, Cap: 1})
}

// P3.1, R1, R3, P1: at every config and time the answer is that of exact integers, and no call panics.
func TestAgainstExactIntegers(t *testing.T) {
	for _, c := range configs() {
		if got, want := May(c), exactMay(c); got != want {
			t.Errorf("May(%+v) = %v; want %v", c, got, want)
		}
		for _, time := range numbers() {
			want, wantErr := exactOf(c, time)
			list, err := Of(c, time)
			if !slices.Equal(list, want) || err != wantErr {
				t.Fatalf("Of(%+v, %d) = %v, %v; want %v, %v", c, time, list, err, want, wantErr)
			}
		}
	}
}

// P3.2: what is done to one answer is not seen in another one, not even in one that was there already.
func TestNewMemory(t *testing.T) {
	for k := api.Tumbling; k <= api.Session; k++ {
		c := everyKind(k)
		before, err := Of(c, 9)
		if len(before) == 0 || err != nil {
			t.Fatalf("Of(%+v, 9) = %v, %v", c, before, err)
		}
		want := slices.Clone(before)
		spoiled, _ := Of(c, 9)
		spoiled = spoiled[:cap(spoiled)]
		for i := range spoiled {
			spoiled[i] = window(-77, -78)
		}
		if after, err := Of(c, 9); !slices.Equal(after, want) || err != nil {
			t.Errorf("Of(%+v, 9) = %v, %v behind a change of an answer; want %v", c, after, err, want)
		}
		if !slices.Equal(before, want) {
			t.Errorf("an answer to %+v is %v behind a change of another one; it was %v", c, before, want)
		}
	}
}

// P3.2: nor is an answer changed by calls of other times and other configs.
func TestAnswersStay(t *testing.T) {
	c := sliding(16, 1, 0)
	list, _ := Of(c, 0)
	want := slices.Clone(list)
	for time := int64(-40); time <= 40; time++ {
		for _, other := range []api.Config{c, sliding(10, 4, 1), tumbling(10, 0), session(3, 0)} {
			if _, err := Of(other, time); err != nil {
				t.Fatalf("Of(%+v, %d): %v", other, time, err)
			}
		}
	}
	if !slices.Equal(list, want) {
		t.Errorf("an answer is %v behind other calls; it was %v", list, want)
	}
}

// P3.3
func TestEachWindowHasTheTime(t *testing.T) {
	for _, c := range configs() {
		for _, time := range numbers() {
			list, err := Of(c, time)
			if (err == nil) != (len(list) > 0) {
				t.Fatalf("Of(%+v, %d) = %v, %v", c, time, list, err)
			}
			for i, s := range list {
				if !span.May(s) || !span.Has(s, time) {
					t.Fatalf("Of(%+v, %d) tells %v", c, time, s)
				}
				if i > 0 && span.Compare(list[i-1], s) != -1 {
					t.Fatalf("Of(%+v, %d) = %v, which doesn't rise", c, time, list)
				}
			}
		}
	}
}

// P3.3: the most windows of a time are Size divided by Slide, rounded up, and no time has two fewer.
func TestSlidingCounts(t *testing.T) {
	for slide := int64(1); slide <= 7; slide++ {
		for size := slide; size <= 16*slide; size++ {
			top := int((size + slide - 1) / slide)
			seen := 0
			for time := -3 * size; time <= 3*size; time++ {
				list, err := Of(sliding(size, slide, 1), time)
				if err != nil || len(list) != top && len(list) != top-1 {
					t.Fatalf("Of Size %d, Slide %d, the time %d are %v, %v; want %d or one fewer", size, slide, time, list, err, top)
				}
				if size%slide == 0 && len(list) != top {
					t.Fatalf("Of Size %d, Slide %d, the time %d are %v; want %d", size, slide, time, list, top)
				}
				seen = max(seen, len(list))
			}
			if seen != top {
				t.Errorf("Size %d, Slide %d: at most %d windows; want %d", size, slide, seen, top)
			}
		}
	}
}

// P3.3
func TestTumblingThatMeetAreOne(t *testing.T) {
	for size := int64(1); size <= 12; size++ {
		c := tumbling(size, 3)
		for a := int64(-25); a <= 25; a++ {
			for b := int64(-25); b <= 25; b++ {
				one, errOne := Of(c, a)
				two, errTwo := Of(c, b)
				if errOne != nil || errTwo != nil || len(one) != 1 || len(two) != 1 {
					t.Fatalf("Size %d: %d has %v, %v; %d has %v, %v", size, a, one, errOne, b, two, errTwo)
				}
				if span.Meet(one[0], two[0]) != (one[0] == two[0]) {
					t.Errorf("Size %d: %v of %d and %v of %d meet, and are two", size, one[0], a, two[0], b)
				}
			}
		}
	}
}
