package agg

import (
	"math"
	"math/big"
	"slices"
	"testing"

	"easel/api"
)

const (
	least = math.MinInt64
	most  = math.MaxInt64
)

func of(count int, sum, low, high int64) api.Agg {
	return api.Agg{Count: count, Sum: sum, Min: low, Max: high}
}

func added(values ...int64) api.Agg {
	var a api.Agg
	for _, v := range values {
		a = Add(a, v)
	}
	return a
}

// P4.1
func TestOf(t *testing.T) {
	for _, v := range []int64{0, 1, -1, 5, -2, 1 << 31, -1 << 31, 1 << 62, least, least + 1, most, most - 1} {
		if got, want := Of(v), of(1, v, v, v); got != want {
			t.Errorf("Of(%d) = %v; want %v", v, got, want)
		}
	}
}

// P4.1
func TestAdd(t *testing.T) {
	rows := []struct {
		name string
		a    api.Agg
		v    int64
		want api.Agg
	}{
		{"the chapter's example", Of(5), -2, of(2, 3, -2, 5)},
		{"a new Min", of(3, 12, 1, 7), -4, of(4, 8, -4, 7)},
		{"a new Max", of(3, 12, 1, 7), 9, of(4, 21, 1, 9)},
		{"neither", of(3, 12, 1, 7), 4, of(4, 16, 1, 7)},
		{"just below Min", of(3, 12, 1, 7), 0, of(4, 12, 0, 7)},
		{"just above Max", of(3, 12, 1, 7), 8, of(4, 20, 1, 8)},
		{"Min again", of(3, 12, 1, 7), 1, of(4, 13, 1, 7)},
		{"Max again", of(3, 12, 1, 7), 7, of(4, 19, 1, 7)},
		{"alike", Of(6), 6, of(2, 12, 6, 6)},
		{"alike below 0", of(2, -12, -6, -6), -6, of(3, -18, -6, -6)},
		{"all above 0", of(2, 7, 3, 4), 5, of(3, 12, 3, 5)},
		{"all below 0", of(2, -7, -4, -3), -5, of(3, -12, -5, -3)},
		{"0 above all", of(2, -7, -4, -3), 0, of(3, -7, -4, 0)},
		{"0 below all", of(2, 7, 3, 4), 0, of(3, 7, 0, 4)},
		{"a sum of 0", Of(5), -5, of(2, 0, -5, 5)},
		{"the least", Of(0), least, of(2, least, least, 0)},
		{"the greatest", Of(0), most, of(2, most, 0, most)},
		{"the least and the greatest", Of(least), most, of(2, -1, least, most)},
		{"the greatest and the least", Of(most), least, of(2, -1, least, most)},
		{"a sum that is just the greatest", Of(most - 1), 1, of(2, most, 1, most-1)},
		{"a sum that is just the least", Of(least + 1), -1, of(2, least, least+1, -1)},
		{"a sum one above the greatest", Of(most), 1, of(2, least, 1, most)},
		{"a sum one below the least", Of(least), -1, of(2, most, least, -1)},
		{"the greatest twice", Of(most), most, of(2, -2, most, most)},
		{"the least twice", Of(least), least, of(2, 0, least, least)},
		{"back from above the greatest", of(2, least, 1, most), -1, of(3, most, -1, most)},
		{"back from below the least", of(2, most, least, -1), 1, of(3, least, least, 1)},
		{"many already", of(1<<31-2, 9, 1, 2), 2, of(1<<31-1, 11, 1, 2)},
	}
	for _, r := range rows {
		if got := Add(r.a, r.v); got != r.want {
			t.Errorf("%s: Add(%v, %d) = %v; want %v", r.name, r.a, r.v, got, r.want)
		}
	}
}

// P4.1: both ways round, as two that have values are alike.
func TestMerge(t *testing.T) {
	rows := []struct {
		name       string
		a, b, want api.Agg
	}{
		{"one and one", Of(3), Of(-4), of(2, -1, -4, 3)},
		{"one below the other", of(3, 6, 1, 3), of(2, 30, 10, 20), of(5, 36, 1, 20)},
		{"one that meets the other", of(3, 12, 1, 7), of(2, 14, 5, 9), of(5, 26, 1, 9)},
		{"one within the other", of(3, 12, 1, 7), of(4, 16, 3, 5), of(7, 28, 1, 7)},
		{"one with the other's Min", of(3, 12, 1, 7), of(2, 3, 1, 2), of(5, 15, 1, 7)},
		{"one with the other's Max", of(3, 12, 1, 7), of(2, 13, 6, 7), of(5, 25, 1, 7)},
		{"alike", of(3, 12, 1, 7), of(3, 12, 1, 7), of(6, 24, 1, 7)},
		{"all below 0", of(2, -7, -4, -3), of(2, -9, -8, -1), of(4, -16, -8, -1)},
		{"all above 0", of(2, 7, 3, 4), of(2, 9, 1, 8), of(4, 16, 1, 8)},
		{"a sum of 0", of(2, 7, 3, 4), of(2, -7, -4, -3), of(4, 0, -4, 4)},
		{"the least and the greatest", Of(least), Of(most), of(2, -1, least, most)},
		{"a sum that is just the greatest", Of(most - 1), Of(1), of(2, most, 1, most-1)},
		{"a sum that is just the least", Of(least + 1), Of(-1), of(2, least, least+1, -1)},
		{"a sum one above the greatest", of(2, most, 0, most), Of(1), of(3, least, 0, most)},
		{"a sum one below the least", of(2, least, least, 0), Of(-1), of(3, most, least, 0)},
		{"sums of the greatest", of(2, most, 0, most), of(2, most, 1, most-1), of(4, -2, 0, most)},
		{"sums of the least", of(2, least, least, 0), of(2, least, least+1, -1), of(4, 0, least, 0)},
		{"many in both", of(1<<30, 9, 1, 2), of(1<<30-1, 4, -3, 0), of(1<<31-1, 13, -3, 2)},
	}
	for _, r := range rows {
		if got := Merge(r.a, r.b); got != r.want {
			t.Errorf("%s: Merge(%v, %v) = %v; want %v", r.name, r.a, r.b, got, r.want)
		}
		if got := Merge(r.b, r.a); got != r.want {
			t.Errorf("%s: Merge(%v, %v) = %v; want %v", r.name, r.b, r.a, got, r.want)
		}
	}
}

// empties have a Count below 1, and in their other fields whatever may be told from an answer.
func empties() []api.Agg {
	var list []api.Agg
	for _, count := range []int{0, -1, -2, -1 << 31, math.MinInt} {
		list = append(list,
			of(count, 0, 0, 0), of(count, 9, 4, 0), of(count, 0, -4, 77), of(count, -5, 77, -77),
			of(count, most, least, most), of(count, least, most, least), of(count, most, most, most), of(count, least, least, least),
		)
	}
	return list
}

// filled have a Count of 1 and of more.
func filled() []api.Agg {
	return []api.Agg{
		Of(0), Of(3), Of(-4), Of(least), Of(most),
		of(2, 3, -2, 5), of(3, 12, 1, 7), of(2, -1, least, most), of(2, -2, most, most), of(1<<31-1, 0, -1, 1),
	}
}

// P4.1
func TestAddToNone(t *testing.T) {
	for _, a := range empties() {
		for _, v := range []int64{0, 1, -1, 7, -7, 77, -77, least, most} {
			if got, want := Add(a, v), of(1, v, v, v); got != want {
				t.Errorf("Add(%v, %d) = %v; want %v", a, v, got, want)
			}
		}
	}
}

// P4.1
func TestMergeOfNoneAtOneSide(t *testing.T) {
	for _, none := range empties() {
		for _, some := range filled() {
			if got := Merge(none, some); got != some {
				t.Errorf("Merge(%v, %v) = %v; want the second", none, some, got)
			}
			if got := Merge(some, none); got != some {
				t.Errorf("Merge(%v, %v) = %v; want the first", some, none, got)
			}
		}
	}
}

// P4.1: b as it is, its Count below 0 and its other fields too.
func TestMergeOfNoneAtBothSides(t *testing.T) {
	for _, a := range empties() {
		for _, b := range empties() {
			if got := Merge(a, b); got != b {
				t.Errorf("Merge(%v, %v) = %v; want the second", a, b, got)
			}
		}
	}
}

// P4.1: a Count of 1 is the least that has values, and must not be taken for none.
func TestCountOfOneHasAValue(t *testing.T) {
	if got, want := Add(of(1, 5, 5, 5), 6), of(2, 11, 5, 6); got != want {
		t.Errorf("Add = %v; want %v", got, want)
	}
	if got, want := Merge(of(1, 5, 5, 5), of(1, 6, 6, 6)), of(2, 11, 5, 6); got != want {
		t.Errorf("Merge = %v; want %v", got, want)
	}
}

// exact reckons by big integers, of which the sum's low 64 bits are taken in the end.
func exact(values []int64) api.Agg {
	if len(values) == 0 {
		return api.Agg{}
	}
	sum := new(big.Int)
	for _, v := range values {
		sum.Add(sum, big.NewInt(v))
	}
	sum.And(sum, new(big.Int).SetUint64(math.MaxUint64))
	return of(len(values), int64(sum.Uint64()), slices.Min(values), slices.Max(values))
}

// lists have values that are alike, ones at both ends, and sums beyond 64 bits in some of their orders, or in all.
func lists() [][]int64 {
	return [][]int64{
		{},
		{5},
		{5, -2},
		{least, most},
		{3, 3, 3, 3},
		{1, -1, 0, 2, -2},
		{9, 4, 9, -6, 4},
		{most, 1, -1, least, 0},
		{most, most, most, 7, most},
		{least, least, -1, least, least},
		{most, least, most, least, 1},
		{1 << 62, 1 << 62, 1 << 62, -1 << 62, 12},
	}
}

// orders calls see with every order of the values.
func orders(values []int64, see func([]int64)) {
	var place func(n int)
	list := slices.Clone(values)
	place = func(n int) {
		if n == len(list) {
			see(list)
			return
		}
		for i := n; i < len(list); i++ {
			list[n], list[i] = list[i], list[n]
			place(n + 1)
			list[n], list[i] = list[i], list[n]
		}
	}
	place(0)
}

// P4.1, P4.2
func TestAddedInEveryOrder(t *testing.T) {
	for _, values := range lists() {
		want := exact(values)
		orders(values, func(list []int64) {
			if got := added(list...); got != want {
				t.Errorf("%v added come to %v; want %v", list, got, want)
			}
		})
	}
}

// merged are all that the values come to, by every way to split them, and each side again, down to one value or none.
func merged(values []int64) []api.Agg {
	if len(values) == 0 {
		return []api.Agg{{}}
	}
	if len(values) == 1 {
		return []api.Agg{Of(values[0])}
	}
	var list []api.Agg
	for i := 1; i < len(values); i++ {
		for _, a := range merged(values[:i]) {
			for _, b := range merged(values[i:]) {
				list = append(list, Merge(a, b))
			}
		}
	}
	return list
}

// P4.1, P4.2
func TestMergedInEveryOrderAndSplit(t *testing.T) {
	for _, values := range lists() {
		want := exact(values)
		orders(values, func(list []int64) {
			for _, got := range merged(list) {
				if got != want {
					t.Fatalf("%v merged come to %v; want %v", list, got, want)
				}
			}
		})
	}
}

// P4.2: added at both sides of a split, one side of which may be empty, merged, and added to again.
func TestAddedAndMerged(t *testing.T) {
	for _, values := range lists() {
		want := exact(values)
		for i := 0; i <= len(values); i++ {
			for j := i; j <= len(values); j++ {
				got := Merge(added(values[:i]...), added(values[i:j]...))
				for _, v := range values[j:] {
					got = Add(got, v)
				}
				if got != want {
					t.Errorf("%v, split at %d and added from %d on, come to %v; want %v", values, i, j, got, want)
				}
			}
		}
	}
}

// P4.2: so is it with more values than all orders could be gone through of.
func TestManyValues(t *testing.T) {
	var values []int64
	v := uint64(1)
	for range 1000 {
		v = v*6364136223846793005 + 1442695040888963407
		values = append(values, int64(v))
	}
	want := exact(values)
	backwards, sorted := slices.Clone(values), slices.Sorted(slices.Values(values))
	slices.Reverse(backwards)
	for _, list := range [][]int64{values, backwards, sorted} {
		if got := added(list...); got != want {
			t.Errorf("added they come to %v; want %v", got, want)
		}
		for i := 0; i <= len(list); i += 37 {
			one, two := added(list[:i]...), added(list[i:]...)
			if got := Merge(one, two); got != want {
				t.Errorf("split at %d they come to %v; want %v", i, got, want)
			}
			if got := Merge(two, one); got != want {
				t.Errorf("split at %d, the other way round, they come to %v; want %v", i, got, want)
			}
		}
	}
}

// P1: no call panics where fields hold what no values come to, nor where a Count is the greatest int.
func TestNoPanic(t *testing.T) {
	odd := append(empties(), of(math.MaxInt, most, most, least), of(math.MaxInt, least, least, most), of(1, 0, 9, -9))
	odd = append(odd, filled()...)
	for _, a := range odd {
		for _, b := range odd {
			Merge(a, b)
		}
		for _, v := range []int64{least, -1, 0, 1, most} {
			Add(a, v)
		}
	}
}
