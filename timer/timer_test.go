package timer

import (
	"bytes"
	"math"
	"math/big"
	"math/rand"
	"slices"
	"strconv"
	"testing"

	"easel/api"
)

const (
	least = math.MinInt64
	most  = math.MaxInt64
)

func at(key string, start, end int64) Timer {
	return Timer{Key: key, Span: api.Span{Start: start, End: end}}
}

// risingKeys are written out by rising bytes: the letters' own order, and that of pairs of 16 bits, would be others.
func risingKeys() []string {
	return []string{
		"", "\x00", "\x00\x00", "\x00a", " ", "10", "9", "A", "Z", "a", "a\x00", "a\x00b", "aa", "aaa", "ab", "a\xff", "b", "ba", "z",
		"\x7f", "\x80", "\x80\x00", "\xc3", "é", "\xc3\xff", "€", "\xef\xbf\xbd", "😀", "\xff", "\xffa", "\xff\xff",
	}
}

// inOrder are timers as the chapter orders them: by End, then Start (some behind their End), then the key's bytes. The
// far ones have differences that don't fit.
func inOrder() []Timer {
	list := []Timer{
		at("z", least, least),
		at("z", least+1, least),
		at("b", 0, least),
		at("a", most, least),
		at("b", most, least),
		at("a", least, least+1),
		at("z", -100, -10),
		at("y", -20, -10),
		at("x", -11, -10),
		at("w", 5, -10),
		at("", 0, 0),
		at("b", -5, 10),
		at("z", -5, 10),
	}
	for _, key := range risingKeys() {
		list = append(list, at(key, 0, 10))
	}
	return append(list,
		at("", 1, 10),
		at("a", 9, 10),
		at("a", 10, 10),
		at("a", 11, 10),
		at("a", -5, 11),
		at("a", 0, 20),
		at("", most, most-1),
		at("b", least, most),
		at("c", least, most),
		at("a", -1, most),
		at("", 0, most),
		at("a", 0, most),
		at("a", most-1, most),
		at("", most, most),
		at("\xff", most, most),
	)
}

// mixed are the same, in an order that seed tells.
func mixed(list []Timer, seed int64) []Timer {
	list = slices.Clone(list)
	rand.New(rand.NewSource(seed)).Shuffle(len(list), func(i, j int) { list[i], list[j] = list[j], list[i] })
	return list
}

// orders are some in which a list that rises may be put.
func orders(list []Timer) [][]Timer {
	falling := slices.Clone(list)
	slices.Reverse(falling)
	all := [][]Timer{slices.Clone(list), falling, slices.Concat(list[len(list)/2:], list[:len(list)/2])}
	for seed := range int64(40) {
		all = append(all, mixed(list, seed))
	}
	return all
}

// permutations are all orders of a short list.
func permutations(list []Timer) [][]Timer {
	if len(list) == 0 {
		return [][]Timer{nil}
	}
	var all [][]Timer
	for i := range list {
		for _, rest := range permutations(slices.Concat(list[:i], list[i+1:])) {
			all = append(all, append(rest, list[i]))
		}
	}
	return all
}

// filled puts all of a list, each of them new.
func filled(t *testing.T, list []Timer) *Timers {
	t.Helper()
	l := New()
	for i, x := range list {
		if !l.Put(x) {
			t.Fatalf("Put(%#v) = false; it wasn't there", x)
		}
		if l.Len() != i+1 {
			t.Fatalf("Len() = %d; want %d", l.Len(), i+1)
		}
	}
	return l
}

// has asks what changes nothing.
func has(t *testing.T, l *Timers, want []Timer) {
	t.Helper()
	if l.Len() != len(want) {
		t.Fatalf("Len() = %d; want %d", l.Len(), len(want))
	}
	var first Timer
	if len(want) > 0 {
		first = want[0]
	}
	for range 2 {
		if x, is := l.Next(); x != first || is != (len(want) > 0) {
			t.Fatalf("Next() = %#v, %v; want %#v, %v", x, is, first, len(want) > 0)
		}
	}
}

// empties pops all there is, which must be the list, in its order; at this mark every window is over.
func empties(t *testing.T, l *Timers, want []Timer) {
	t.Helper()
	for len(want) > 0 {
		has(t, l, want)
		if x, is := l.Pop(0, most); x != want[0] || !is {
			t.Fatalf("Pop(0, %d) = %#v, %v; want %#v, true", most, x, is, want[0])
		}
		want = want[1:]
	}
	has(t, l, nil)
	if x, is := l.Pop(0, most); x != (Timer{}) || is {
		t.Fatalf("Pop(0, %d) = %#v, %v, where there are none", most, x, is)
	}
	has(t, l, nil)
}

// P6.1
func TestNoneAtFirst(t *testing.T) {
	l := New()
	if l == nil {
		t.Fatal("New() = nil")
	}
	has(t, l, nil)
	for _, late := range numbers() {
		for _, mark := range numbers() {
			if x, is := l.Pop(late, mark); x != (Timer{}) || is {
				t.Errorf("Pop(%d, %d) = %#v, %v, where there are none", late, mark, x, is)
			}
		}
	}
	for _, x := range append(inOrder(), Timer{}) {
		if l.Drop(x) {
			t.Errorf("Drop(%#v) = true, where there are none", x)
		}
	}
	has(t, l, nil)
}

// P6.1: the chapter's example.
func TestExample(t *testing.T) {
	l := New()
	l.Put(at("a", 0, 10))
	l.Put(at("b", 0, 5))
	if x, is := l.Pop(0, 10); x != at("b", 0, 5) || !is {
		t.Errorf("Pop(0, 10) = %#v, %v; want b, 0 to 5", x, is)
	}
	empties(t, l, []Timer{at("a", 0, 10)})
}

// P6.1: what is there already isn't put twice, though it is put by other values that are alike, and its place is any.
func TestPutOfOneThatIsThere(t *testing.T) {
	want := inOrder()
	for _, list := range orders(want) {
		l := filled(t, list)
		for _, x := range list {
			again := at(string([]byte(x.Key)), x.Span.Start, x.Span.End)
			if l.Put(again) {
				t.Fatalf("Put(%#v) = true; it was there", again)
			}
			has(t, l, want)
		}
		empties(t, l, want)
	}
}

// P6.1: timers that differ in one thing alone are two.
func TestPutOfOnesThatAreAlikeButFor(t *testing.T) {
	rows := []struct {
		name string
		want []Timer
	}{
		{"the key", []Timer{at("a", 0, 10), at("b", 0, 10)}},
		{"the key's last byte", []Timer{at("key-1", 0, 10), at("key-2", 0, 10)}},
		{"a byte more", []Timer{at("a", 0, 10), at("a\x00", 0, 10)}},
		{"a key of no byte", []Timer{at("", 0, 10), at("\x00", 0, 10)}},
		{"bytes that are no UTF-8", []Timer{at("\xfe", 0, 10), at("\xff", 0, 10)}},
		{"the Start", []Timer{at("a", -1, 10), at("a", 0, 10)}},
		{"a far Start", []Timer{at("a", least, 10), at("a", most, 10)}},
		{"the End", []Timer{at("a", 0, 10), at("a", 0, 11)}},
		{"a far End", []Timer{at("a", 0, least), at("a", 0, most)}},
		{"Start and End the other way round", []Timer{at("a", 10, 0), at("a", 0, 10)}},
		{"all", []Timer{{}, at("a", 1, 2)}},
	}
	for _, r := range rows {
		t.Run(r.name, func(t *testing.T) {
			for _, list := range permutations(r.want) {
				l := filled(t, list)
				for _, x := range list {
					if l.Put(x) {
						t.Errorf("Put(%#v) = true; it was there", x)
					}
				}
				empties(t, l, r.want)
				l = filled(t, list[:1])
				if l.Drop(list[1]) {
					t.Errorf("Drop(%#v) = true; there was %#v alone", list[1], list[0])
				}
				empties(t, l, list[:1])
			}
		})
	}
}

// P6.1: one that is zero is one as any other, and Next and Pop tell it with true.
func TestZeroTimer(t *testing.T) {
	l := filled(t, []Timer{{}})
	empties(t, l, []Timer{{}})
	if !l.Put(Timer{}) || l.Put(Timer{}) || !l.Drop(Timer{}) || l.Drop(Timer{}) {
		t.Error("Put and Drop of a zero one, twice each")
	}
	has(t, l, nil)
}

// P6.1: of each two, in both orders of Put.
func TestOrderOfTwo(t *testing.T) {
	list := inOrder()
	for j, second := range list {
		for _, first := range list[:j] {
			empties(t, filled(t, []Timer{first, second}), []Timer{first, second})
			empties(t, filled(t, []Timer{second, first}), []Timer{first, second})
		}
	}
}

// P6.1: End counts ahead of Start, and both ahead of the key, each pulling the other way here.
func TestOrderOfEndStartKey(t *testing.T) {
	want := []Timer{
		at("z", 8, 9), at("y", 9, 9), at("x", -3, 10), at("b", 0, 10), at("c", 0, 10), at("a", 1, 10), at("", -9, 11),
	}
	for _, list := range permutations(want) {
		empties(t, filled(t, list), want)
	}
}

// P6.2: every order of a few, and many of more.
func TestWhatIsPoppedRises(t *testing.T) {
	want := inOrder()
	for n := range 8 {
		for from := 0; from+n <= len(want); from += 9 {
			for _, list := range permutations(want[from : from+n]) {
				empties(t, filled(t, list), want[from:from+n])
			}
		}
	}
	for _, list := range orders(want) {
		empties(t, filled(t, list), want)
	}
}

// P6.2: more than any test has to go through one by one, half of them dropped.
func TestManyRise(t *testing.T) {
	const count = 50000
	var want []Timer
	for i := range int64(count) {
		// Three keys and two Starts to each End, rising.
		want = append(want, at(strconv.FormatInt(i%3, 10), i/3%2, i/6))
	}
	l := filled(t, mixed(want, 1))
	var left []Timer
	for i, x := range want {
		if i%2 == 0 {
			left = append(left, x)
		} else if !l.Drop(x) {
			t.Fatalf("Drop(%#v) = false; it was there", x)
		}
	}
	empties(t, l, left)
}

// P6.1: whatever differs from one that is there, in one thing alone or in all, isn't there.
func TestDropOfOneThatIsNotThere(t *testing.T) {
	want := []Timer{at("b", 2, 5), at("b", 0, 10), at("b", 2, 10), at("bb", 2, 10)}
	rows := []Timer{
		{}, at("a", 2, 5), at("b", 1, 5), at("b", 2, 6), at("b", 0, 5), at("", 2, 10), at("bbb", 2, 10), at("bb", 0, 10),
		at("b\x00", 2, 10), at("B", 2, 10), at("b", 10, 2), at("b", 10, 0), at("b", 2, most), at("b", least, 10),
	}
	for _, list := range permutations(want) {
		l := filled(t, list)
		for _, x := range rows {
			if l.Drop(x) {
				t.Errorf("Drop(%#v) = true; it wasn't there", x)
			}
			has(t, l, want)
		}
		empties(t, l, want)
	}
}

// P6.1: the first one, the last one, and each between them, out of many orders in which they were put.
func TestDropOfEach(t *testing.T) {
	want := inOrder()
	for _, list := range orders(want) {
		for i, x := range want {
			l := filled(t, list)
			left := slices.Concat(want[:i], want[i+1:])
			if !l.Drop(x) {
				t.Fatalf("Drop(%#v) = false; it was there", x)
			}
			has(t, l, left)
			if l.Drop(x) {
				t.Fatalf("Drop(%#v) = true; it was dropped", x)
			}
			empties(t, l, left)
		}
	}
}

// P6.1: of a few, each choice of them is dropped, in both directions, out of every order in which they were put.
func TestDropOfSome(t *testing.T) {
	want := []Timer{at("z", 0, 1), at("a", 0, 2), at("a", 1, 2), at("b", 1, 2), at("a", 0, 9), at("a", 8, 9)}
	for _, list := range permutations(want) {
		for choice := range 1 << len(want) {
			var gone, left []Timer
			for i, x := range want {
				if choice>>i&1 == 1 {
					gone = append(gone, x)
				} else {
					left = append(left, x)
				}
			}
			for range 2 {
				l := filled(t, list)
				for _, x := range gone {
					if !l.Drop(x) || l.Drop(x) {
						t.Fatalf("Drop(%#v), twice, of %#v", x, list)
					}
				}
				empties(t, l, left)
				slices.Reverse(gone)
			}
		}
	}
}

// P6.1: behind each Drop, of all in any order, the first of those that are left is told.
func TestDropOfAll(t *testing.T) {
	want := inOrder()
	for seed, list := range orders(want) {
		l := filled(t, list)
		left := slices.Clone(want)
		for _, x := range mixed(want, int64(seed)+1000) {
			if !l.Drop(x) {
				t.Fatalf("Drop(%#v) = false; it was there", x)
			}
			left = slices.DeleteFunc(left, func(y Timer) bool { return x == y })
			has(t, l, left)
		}
		empties(t, l, nil)
	}
}

// P6.1: the rows behind the ordinary ones have sums at both ends of 64 bits, beyond them, and late below 0.
func TestPop(t *testing.T) {
	rows := []struct {
		end, late, mark int64
		want            bool
	}{
		{10, 0, 9, false},
		{10, 0, 10, true},
		{10, 0, 11, true},
		{10, 5, 14, false},
		{10, 5, 15, true},
		{-10, 5, -6, false},
		{-10, 5, -5, true},
		{10, -5, 4, false},
		{10, -5, 5, true},
		{10, 0, least, false},
		{10, 0, most, true},
		{most, 0, most, true},
		{most, 0, most - 1, false},
		{most - 1, 1, most, true},
		{most, 1, most, false},
		{1, most, most, false},
		{0, most, most, true},
		{most, most, most, false},
		{most, most, least, false},
		{most, most, -2, false},
		{1 << 62, 1 << 62, most, false},
		{1 << 62, 1 << 62, least, false},
		{least, 0, least, true},
		{least + 1, 0, least, false},
		{least + 1, -1, least, true},
		{least, -1, least, true},
		{-1, least, least, true},
		{0, least, least, true},
		{1, least, least, false},
		{least, least, least, true},
		{least, least, most, true},
		{least, least, -1, true},
		{most, least, -1, true},
		{most, least, -2, false},
		{least, most, -1, true},
		{least, most, -2, false},
	}
	for _, r := range rows {
		// Start plays no part, not even where the window may not be.
		for _, start := range []int64{least, 0, most} {
			popsIf(t, at("a", start, r.end), r.late, r.mark, r.want)
		}
	}
}

// popsIf asks it of one timer, alone and ahead of another one: it is gone, or nothing is changed.
func popsIf(t *testing.T, x Timer, late, mark int64, want bool) {
	t.Helper()
	other := at(x.Key+"b", x.Span.Start, x.Span.End)
	for _, list := range [][]Timer{{x}, {x, other}, {other, x}} {
		l := filled(t, list)
		wantTold, left := Timer{}, []Timer{x, other}[:len(list)]
		if want {
			wantTold, left = x, left[1:]
		}
		if got, is := l.Pop(late, mark); got != wantTold || is != want {
			t.Errorf("Pop(%d, %d) of %#v = %#v, %v; want %v", late, mark, list, got, is, want)
		}
		empties(t, l, left)
	}
}

// numbers are small ones and those around which sums stop to fit.
func numbers() []int64 {
	return []int64{
		least, least + 1, -1<<62 - 1, -1 << 62, -10, -2, -1, 0, 1, 2, 10, 1<<62 - 1, 1 << 62, most - 1, most,
	}
}

// over is told by exact integers.
func over(end, late, mark int64) bool {
	sum := new(big.Int).Add(big.NewInt(end), big.NewInt(late))
	return sum.Cmp(big.NewInt(mark)) <= 0
}

// P6.1: at every three numbers the answer is that of exact integers.
func TestPopAgainstExactIntegers(t *testing.T) {
	for _, end := range numbers() {
		for _, late := range numbers() {
			for _, mark := range numbers() {
				popsIf(t, at("a", 0, end), late, mark, over(end, late, mark))
			}
		}
	}
}

// P6.1: one by one, up to the first that isn't over; a mark that rises goes on from there.
func TestPopByRisingMarks(t *testing.T) {
	want := []Timer{at("b", 0, 5), at("a", 5, 10), at("b", 5, 10), at("a", 10, 15), at("a", most-1, most)}
	marks := []struct {
		mark  int64
		count int
	}{{least, 0}, {6, 0}, {7, 1}, {7, 0}, {11, 0}, {12, 2}, {0, 0}, {16, 0}, {100, 1}, {most, 0}}
	for _, list := range permutations(want) {
		l, left := filled(t, list), want
		for _, m := range marks {
			for range m.count {
				if x, is := l.Pop(2, m.mark); x != left[0] || !is {
					t.Fatalf("Pop(2, %d) = %#v, %v; want %#v, true", m.mark, x, is, left[0])
				}
				left = left[1:]
				has(t, l, left)
			}
			if x, is := l.Pop(2, m.mark); x != (Timer{}) || is {
				t.Fatalf("Pop(2, %d) = %#v, %v; none was over", m.mark, x, is)
			}
			has(t, l, left)
		}
		empties(t, l, left)
	}
}

// P6.1: what is told behind each kind of change, and behind each that changes nothing.
func TestNextAndPopAfterEachChange(t *testing.T) {
	a, b, c, d := at("a", 0, 10), at("b", 0, 10), at("a", 0, 20), at("a", 0, 30)
	l := New()
	steps := []struct {
		name string
		do   func() bool
		want bool
		left []Timer
	}{
		{"Drop of none", func() bool { return l.Drop(c) }, false, nil},
		{"Put of the only one", func() bool { return l.Put(c) }, true, []Timer{c}},
		{"Put of a last one", func() bool { return l.Put(d) }, true, []Timer{c, d}},
		{"Put of a first one", func() bool { return l.Put(a) }, true, []Timer{a, c, d}},
		{"Put of one between", func() bool { return l.Put(b) }, true, []Timer{a, b, c, d}},
		{"Put of the first one again", func() bool { return l.Put(a) }, false, []Timer{a, b, c, d}},
		{"Put of the last one again", func() bool { return l.Put(d) }, false, []Timer{a, b, c, d}},
		{"Drop of the first one", func() bool { return l.Drop(a) }, true, []Timer{b, c, d}},
		{"Drop of it again", func() bool { return l.Drop(a) }, false, []Timer{b, c, d}},
		{"Drop of the one between", func() bool { return l.Drop(c) }, true, []Timer{b, d}},
		{"Pop of one that isn't over", func() bool { _, is := l.Pop(0, 9); return is }, false, []Timer{b, d}},
		{"Pop of one that is", func() bool { _, is := l.Pop(0, 10); return is }, true, []Timer{d}},
		{"Drop of what was popped", func() bool { return l.Drop(b) }, false, []Timer{d}},
		{"Put of what was popped", func() bool { return l.Put(b) }, true, []Timer{b, d}},
		{"Put of what was dropped", func() bool { return l.Put(c) }, true, []Timer{b, c, d}},
		{"Drop of the last one", func() bool { return l.Drop(d) }, true, []Timer{b, c}},
		{"Pop of the first one", func() bool { _, is := l.Pop(0, 20); return is }, true, []Timer{c}},
		{"Drop of the only one", func() bool { return l.Drop(c) }, true, nil},
		{"Pop of none", func() bool { _, is := l.Pop(0, most); return is }, false, nil},
		{"Put of one behind that", func() bool { return l.Put(a) }, true, []Timer{a}},
	}
	for _, s := range steps {
		if got := s.do(); got != s.want {
			t.Fatalf("%s: %v", s.name, got)
		}
		has(t, l, s.left)
	}
	empties(t, l, []Timer{a})
}

// P6.1: what was dropped or popped is put again as if it had never been there.
func TestPutAgain(t *testing.T) {
	want := inOrder()
	for _, list := range orders(want) {
		l := filled(t, list)
		for range 2 {
			for _, x := range list {
				if !l.Drop(x) || !l.Put(x) || l.Put(x) {
					t.Fatalf("Drop, Put, Put of %#v", x)
				}
				has(t, l, want)
			}
			for range want {
				x, is := l.Pop(0, most)
				if !is || l.Drop(x) || !l.Put(x) || l.Put(x) {
					t.Fatalf("Pop, Drop, Put, Put of %#v, %v", x, is)
				}
				has(t, l, want)
			}
		}
		empties(t, l, want)
		for _, x := range list {
			if !l.Put(x) {
				t.Fatalf("Put(%#v) = false; it was popped", x)
			}
		}
		empties(t, l, want)
	}
}

// P6.1: two of them know nothing of each other, be their timers the same ones or others.
func TestTwoTimers(t *testing.T) {
	a, b, c := at("a", 0, 10), at("b", 0, 10), at("a", 0, 20)
	one, two := New(), New()
	if one == two {
		t.Fatal("New() told one thing twice")
	}
	one.Put(a)
	has(t, two, nil)
	if two.Drop(a) {
		t.Error("what one has was dropped from two")
	}
	if _, is := two.Pop(0, most); is {
		t.Error("what one has was popped from two")
	}
	if !two.Put(a) || !two.Put(b) || !one.Put(c) {
		t.Error("Put = false; it wasn't there")
	}
	has(t, one, []Timer{a, c})
	if !one.Drop(a) {
		t.Error("Drop = false; it was there")
	}
	has(t, two, []Timer{a, b})
	empties(t, two, []Timer{a, b})
	empties(t, one, []Timer{c})
}

// R2: what is handed in, and what is told, is one's own to change.
func TestAnswersAreNewMemory(t *testing.T) {
	key := []byte("key")
	x := at(string(key), 0, 10)
	l := filled(t, []Timer{x})
	key[0] = 'x'
	x.Key, x.Span.End = "other", 5
	next, _ := l.Next()
	next.Key, next.Span.Start = "other", 7
	has(t, l, []Timer{at("key", 0, 10)})
	if x != at("other", 0, 5) {
		t.Errorf("what was handed in became %#v", x)
	}
	told, _ := l.Pop(0, 10)
	l.Put(at("later", 0, 10))
	l.Drop(at("later", 0, 10))
	if told != at("key", 0, 10) || next != at("other", 7, 10) {
		t.Errorf("what was told became %#v, %#v", told, next)
	}
}

// ahead is the chapter's order once more, word by word.
func ahead(a, b Timer) bool {
	if a.Span.End != b.Span.End {
		return a.Span.End < b.Span.End
	}
	if a.Span.Start != b.Span.Start {
		return a.Span.Start < b.Span.Start
	}
	return bytes.Compare([]byte(a.Key), []byte(b.Key)) < 0
}

// listed is what Timers are, as a list that is kept in order and gone through.
type listed []Timer

func (l *listed) put(x Timer) bool {
	if slices.Contains(*l, x) {
		return false
	}
	i := 0
	for i < len(*l) && ahead((*l)[i], x) {
		i++
	}
	*l = slices.Insert(*l, i, x)
	return true
}

func (l *listed) drop(x Timer) bool {
	i := slices.Index(*l, x)
	if i < 0 {
		return false
	}
	*l = slices.Delete(*l, i, i+1)
	return true
}

func (l *listed) pop(late, mark int64) (Timer, bool) {
	if len(*l) == 0 || !over((*l)[0].Span.End, late, mark) {
		return Timer{}, false
	}
	x := (*l)[0]
	*l = slices.Delete(*l, 0, 1)
	return x, true
}

// drawn is one of few timers, so that the same ones come often.
func drawn(r *rand.Rand) Timer {
	keys := []string{"", "a", "a\x00", "ab", "b", "\x80", "\xff"}
	ends := []int64{least, -3, 0, 1, 2, most}
	return at(keys[r.Intn(len(keys))], ends[r.Intn(len(ends))], ends[r.Intn(len(ends))])
}

// P6.1, P6.2, P1: whatever calls come, in whatever order, each answers as the list does.
func TestAgainstAList(t *testing.T) {
	for seed := range int64(60) {
		r := rand.New(rand.NewSource(seed))
		l, want := New(), listed{}
		puts := 2 + r.Intn(4) // of 8 calls: some fill up, some run empty
		for range 1500 {
			x := drawn(r)
			switch call := r.Intn(8); {
			case call < puts:
				if got, w := l.Put(x), want.put(x); got != w {
					t.Fatalf("seed %d: Put(%#v) = %v; want %v", seed, x, got, w)
				}
			case call == 7:
				late, mark := numbers()[r.Intn(15)], numbers()[r.Intn(15)]
				w, wis := want.pop(late, mark)
				if got, is := l.Pop(late, mark); got != w || is != wis {
					t.Fatalf("seed %d: Pop(%d, %d) = %#v, %v; want %#v, %v", seed, late, mark, got, is, w, wis)
				}
			default:
				if got, w := l.Drop(x), want.drop(x); got != w {
					t.Fatalf("seed %d: Drop(%#v) = %v; want %v", seed, x, got, w)
				}
			}
			has(t, l, want)
		}
		empties(t, l, want)
	}
}

// The chapter's section 'Ways': what the heap is handed is taken by its type, and what is no timer is left.
func TestHeapTakesTimersAlone(t *testing.T) {
	l := filled(t, []Timer{at("a", 0, 10)})
	x := at("b", 0, 5)
	for _, other := range []any{nil, 5, "a", api.Span{Start: 0, End: 5}, &x, []Timer{x}, error(api.ErrArg)} {
		l.due.Push(other)
		has(t, l, []Timer{at("a", 0, 10)})
	}
	empties(t, l, []Timer{at("a", 0, 10)})
}

// Nothing is held of those that are gone.
func TestNothingIsKeptOfWhatIsGone(t *testing.T) {
	l := filled(t, mixed(inOrder(), 1))
	for _, x := range inOrder()[:20] {
		l.Drop(x)
	}
	empties(t, l, inOrder()[20:])
	if len(l.due.place) != 0 {
		t.Errorf("%d places are kept", len(l.due.place))
	}
	for i, x := range l.due.list[:cap(l.due.list)] {
		if x != (Timer{}) {
			t.Errorf("%#v is kept at %d", x, i)
		}
	}
}
