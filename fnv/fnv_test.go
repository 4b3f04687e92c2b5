package fnv

import (
	stdfnv "hash/fnv"
	"math"
	"math/big"
	"strings"
	"testing"

	"easel/api"
)

// P5.1: bytes are counted, whatever letters they make, or none.
func TestMay(t *testing.T) {
	rows := []struct {
		name, key string
		want      bool
	}{
		{"no byte", "", false},
		{"1 byte", "a", true},
		{"2 bytes", "ab", true},
		{"an ordinary key", "user-17", true},
		{"19 bytes", "1234567890123456789", true},
		{"20 bytes", "12345678901234567890", true},
		{"21 bytes", "123456789012345678901", false},
		{"22 bytes", "1234567890123456789012", false},
		{"256 bytes", strings.Repeat("a", 256), false},
		{"257 bytes", strings.Repeat("a", 257), false},
		{"65537 bytes", strings.Repeat("a", 1<<16+1), false},
		{"10 letters of 2 bytes", strings.Repeat("é", 10), true},
		{"11 letters of 2 bytes", strings.Repeat("é", 11), false},
		{"20 letters of 2 bytes", strings.Repeat("é", 20), false},
		{"6 letters of 3 bytes", strings.Repeat("€", 6), true},
		{"7 letters of 3 bytes", strings.Repeat("€", 7), false},
		{"6 letters of 3 bytes, and 2 bytes", strings.Repeat("€", 6) + "é", true},
		{"5 letters of 4 bytes", strings.Repeat("😀", 5), true},
		{"5 letters of 4 bytes, and 1 byte", strings.Repeat("😀", 5) + "a", false},
		{"a byte of 0", "\x00", true},
		{"20 bytes of 0", strings.Repeat("\x00", 20), true},
		{"21 bytes of 0", strings.Repeat("\x00", 21), false},
		{"a blank", " ", true},
		{"blanks at the ends count", " 1234567890123456789 ", false},
		{"a line's end counts", "12345678901234567890\n", false},
		{"half a letter", "\xc3", true},
		{"20 bytes that are no UTF-8", strings.Repeat("\xff", 20), true},
		{"21 bytes that are no UTF-8", strings.Repeat("\xff", 21), false},
	}
	for _, r := range rows {
		if got := May(r.key); got != r.want {
			t.Errorf("%s: May(%q) = %v; want %v", r.name, r.key, got, r.want)
		}
	}
}

// P5.1: of every length up to well beyond MaxKey.
func TestMayByLength(t *testing.T) {
	for _, unit := range []string{"a", "\x00", "\xff", "é", "€"} {
		for n := range 3 * api.MaxKey {
			key := strings.Repeat(unit, n)
			if got, want := May(key), len(key) >= 1 && len(key) <= 20; got != want {
				t.Errorf("May of %q, %d times, = %v; want %v", unit, n, got, want)
			}
		}
	}
}

// everyByte has each byte once, rising.
func everyByte() string {
	list := make([]byte, 256)
	for i := range list {
		list[i] = byte(i)
	}
	return string(list)
}

// P5.1: the numbers are written out, so that no reckoning here can be wrong in the program's own way.
func TestSum(t *testing.T) {
	rows := []struct {
		name, key string
		want      uint32
	}{
		{"no text", "", 2166136261},
		{"the chapter's example", "a", 3826002220},
		{"one letter beside it", "b", 3876335077},
		{"a great letter", "A", 3289118412},
		{"a blank", " ", 621580159},
		{"two bytes", "ab", 1294271946},
		{"the same, the other way round", "ba", 1009493708},
		{"a key", "key", 1746258028},
		{"a key with a mark", "user-17", 1969742969},
		{"a key of six", "foobar", 3214735720},
		{"20 bytes", "12345678901234567890", 686313437},
		{"21 bytes", "123456789012345678901", 1370869892},
		{"1000 bytes", strings.Repeat("a", 1000), 500786573},
		{"each byte once", everyByte(), 2426689733},
		{"a byte of 0", "\x00", 84696351},
		{"two bytes of 0", "\x00\x00", 292984781},
		{"20 bytes of 0", strings.Repeat("\x00", 20), 3120489557},
		{"a byte of 0 ahead", "\x00a", 1886858586},
		{"a byte of 0 behind", "a\x00", 723832900},
		{"the byte 127", "\x7f", 4195109838},
		{"the byte 128", "\x80", 2232128415},
		{"the byte 255", "\xff", 2047574606},
		{"20 bytes of 255", strings.Repeat("\xff", 20), 1379314401},
		{"a letter of 2 bytes", "é", 513665217},
		{"that letter's number as one byte", "\xe9", 1812687940},
		{"a letter of 3 bytes", "€", 697271083},
		{"a letter of 4 bytes", "😀", 866293256},
		{"half a letter", "\xc3", 1175138418},
		{"bytes that are no UTF-8", "\xff\xfe\xfd", 2371999255},
		{"half a pair", "\xed\xa0\x80", 1973925784},
		{"the mark that stands for a wrong letter", "\xef\xbf\xbd", 55024714},
	}
	for _, r := range rows {
		if got := Sum(r.key); got != r.want {
			t.Errorf("%s: Sum(%.40q) = %d; want %d", r.name, r.key, got, r.want)
		}
	}
}

// texts are of many lengths, most of them longer than a key may be, and hold every byte at every kind of place.
func texts() []string {
	list := []string{"", "a", "b", "key", "user-17", "foobar", "é", "€", "😀", "\xc3", "\xff\xfe\xfd", "\xed\xa0\x80", everyByte()}
	for _, n := range []int{1, 2, 3, 4, 19, 20, 21, 63, 64, 65, 255, 256, 1000, 1 << 16} {
		for _, unit := range []string{"\x00", "a", "\x7f", "\x80", "\xff", "é", "\xffz"} {
			list = append(list, strings.Repeat(unit, n))
		}
	}
	v := uint64(1)
	var mixed []byte
	for range 300 {
		v = v*6364136223846793005 + 1442695040888963407
		mixed = append(mixed, byte(v>>56))
		list = append(list, string(mixed))
	}
	return list
}

// P5.1: the library's own number of this kind is the same, at texts of all kinds.
func TestSumIsTheLibrarys(t *testing.T) {
	for _, text := range texts() {
		h := stdfnv.New32a()
		h.Write([]byte(text))
		if got, want := Sum(text), h.Sum32(); got != want {
			t.Errorf("Sum(%.40q), %d bytes, = %d; want %d", text, len(text), got, want)
		}
	}
}

// exactSum lets the number grow without a bound, and takes it modulo 2^32 only in the end.
func exactSum(text string) *big.Int {
	n := big.NewInt(2166136261)
	for i := range len(text) {
		n.Xor(n, big.NewInt(int64(text[i])))
		n.Mul(n, big.NewInt(16777619))
	}
	return n.Mod(n, new(big.Int).Lsh(big.NewInt(1), 32))
}

// P5.1: beyond 32 bits on the way, and far beyond 64, it is modulo 2^32.
func TestSumAgainstExactIntegers(t *testing.T) {
	for _, text := range texts() {
		if len(text) > 1000 {
			continue
		}
		if got, want := Sum(text), exactSum(text); want.Cmp(new(big.Int).SetUint64(uint64(got))) != 0 {
			t.Errorf("Sum(%.40q), %d bytes, = %d; want %v", text, len(text), got, want)
		}
	}
}

// P5.1
func TestGroup(t *testing.T) {
	rows := []struct {
		key    string
		groups int
		want   int
	}{
		{"a", 7, 5},
		{"a", 2, 0},
		{"a", 16, 12},
		{"a", 17, 2},
		{"key", 7, 4},
		{"user-17", 2, 1},
		{"user-17", 7, 5},
		{"user-17", 16, 9},
		{"user-17", 17, 8},
		{"\xff", 16, 14},
		{"é", 7, 2},
		{"", 7, 2},
		{"", 16, 5},
		{"123456789012345678901", 16, 4},
		{strings.Repeat("a", 1000), 17, 12},
		{"user-17", 1, 0},
		{"user-17", 0, 0},
		{"user-17", -1, 0},
		{"user-17", -7, 0},
		{"user-17", -16, 0},
		{"user-17", math.MinInt32, 0},
		{"user-17", math.MinInt, 0},
		{"user-17", math.MinInt + 1, 0},
	}
	for _, r := range rows {
		if got := Group(r.key, r.groups); got != r.want {
			t.Errorf("Group(%.40q, %d) = %d; want %d", r.key, r.groups, got, r.want)
		}
	}
}

// P5.1: no number of 32 bits is cut or turned below 0 where groups is beyond it; so is a number of 2^31 and more told whole.
func TestGroupFarAboveMaxGroups(t *testing.T) {
	const sum = 3826002220 // of a
	rows := []struct{ groups, want int64 }{
		{1000, 220},
		{1<<31 - 1, sum - (1<<31 - 1)},
		{1 << 31, sum - 1<<31},
		{1<<31 + 1, sum - (1<<31 + 1)},
		{sum - 1, 1},
		{sum, 0},
		{sum + 1, sum},
		{1<<32 - 1, sum},
		{1 << 32, sum},
		{1<<32 + 1, sum},
		{3 << 32, sum},
		{1<<62 + 1, sum},
		{math.MaxInt64 - 1, sum},
		{math.MaxInt64, sum},
	}
	for _, r := range rows {
		if got := Group("a", int(r.groups)); got != int(r.want) {
			t.Errorf("Group(a, %d) = %d; want %d", r.groups, got, r.want)
		}
	}
}

// P5.1: of all groups that a config may have, and of wrong ones, at texts of all kinds.
func TestGroupIsSumModuloGroups(t *testing.T) {
	for _, text := range texts() {
		for groups := -3; groups <= api.MaxGroups+3; groups++ {
			var want int64
			if groups >= 1 {
				want = int64(Sum(text)) % int64(groups)
			}
			if got := Group(text, groups); int64(got) != want {
				t.Errorf("Group(%.40q, %d) = %d; want %d", text, groups, got, want)
			}
		}
	}
}

// P5.1: few keys reach every group there can be.
func TestEveryGroupHasKeys(t *testing.T) {
	for groups := 1; groups <= api.MaxGroups; groups++ {
		seen := make([]int, groups)
		for c := range 256 {
			seen[Group(string([]byte{'k', byte(c)}), groups)]++
		}
		for g, n := range seen {
			if n == 0 {
				t.Errorf("of %d groups, %d has no key", groups, g)
			}
		}
	}
}

// P5.2: with each byte behind each text.
func TestOneByteMore(t *testing.T) {
	for _, text := range texts() {
		if len(text) > 1000 {
			continue
		}
		before := uint64(Sum(text))
		for c := range uint64(256) {
			longer := text + string([]byte{byte(c)})
			// The product has at most 57 bits, and so is exact here.
			want := (before ^ c) * 16777619 % (1 << 32)
			if got := uint64(Sum(longer)); got != want {
				t.Fatalf("Sum of %.40q and the byte %d is %d; want %d, as that of the text is %d", text, c, got, want, before)
			}
		}
	}
}

// P5.2: texts that are alike in their number, though not in their length or their bytes, stay so with the same bytes behind them.
func TestTextsOfOneNumber(t *testing.T) {
	for _, pair := range [][2]string{{"costarring", "liquid"}, {"declinate", "macallums"}, {"altarage", "zinke"}} {
		if Sum(pair[0]) != Sum(pair[1]) {
			t.Fatalf("%q has %d, %q has %d; want one number", pair[0], Sum(pair[0]), pair[1], Sum(pair[1]))
		}
		for _, tail := range texts() {
			one, two := pair[0]+tail, pair[1]+tail
			if Sum(one) != Sum(two) {
				t.Errorf("%q and %q part, with %.40q behind them: %d, %d", pair[0], pair[1], tail, Sum(one), Sum(two))
			}
			if Group(one, 16) != Group(two, 16) {
				t.Errorf("%q and %q have two groups, with %.40q behind them", pair[0], pair[1], tail)
			}
		}
	}
}

// P5.2: two bytes behind one text never come to one number, as the multiplier is odd.
func TestBytesPartOneText(t *testing.T) {
	for _, text := range []string{"", "a", "user-17", "\x00", "\xff\xff", strings.Repeat("é", 50)} {
		seen := map[uint32]int{}
		for c := range 256 {
			n := Sum(text + string([]byte{byte(c)}))
			if other, ok := seen[n]; ok {
				t.Errorf("%.40q with %d and with %d behind it has %d", text, other, c, n)
			}
			seen[n] = c
		}
	}
}

// P5.1: nothing is kept, so what was asked ahead of a call plays no part in its answer.
func TestNothingIsKept(t *testing.T) {
	list := texts()
	var sums []uint32
	for _, text := range list {
		sums = append(sums, Sum(text))
	}
	for i := len(list) - 1; i >= 0; i-- {
		May(list[i])
		Group(list[i], 16)
		if got := Sum(list[i]); got != sums[i] {
			t.Errorf("Sum(%.40q) = %d, and %d ahead of other calls", list[i], got, sums[i])
		}
	}
}

// P1
func TestNoPanic(t *testing.T) {
	for _, text := range texts() {
		May(text)
		for _, n := range []int64{math.MinInt64, -1 << 32, -1 << 31, -1, 0, 1, 1 << 31, 1<<32 - 1, 1 << 32, 3 << 32, math.MaxInt64} {
			groups := int(n)
			got := Group(text, groups)
			if got < 0 || got > 0 && got >= groups {
				t.Errorf("Group(%.40q, %d) = %d", text, groups, got)
			}
		}
	}
}
