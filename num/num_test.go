package num

import (
	"math"
	"math/big"
	"testing"

	"easel/api"
)

const (
	least = math.MinInt64
	most  = math.MaxInt64
)

type function func(a, b int64) (int64, error)

type row struct {
	a, b, want int64
	err        error
}

func checkRows(t *testing.T, name string, f function, rows []row) {
	t.Helper()
	for _, r := range rows {
		if got, err := f(r.a, r.b); got != r.want || err != r.err {
			t.Errorf("%s(%d, %d) = %d, %v; want %d, %v", name, r.a, r.b, got, err, r.want, r.err)
		}
	}
}

// P1.1
func TestAdd(t *testing.T) {
	checkRows(t, "Add", Add, []row{
		{0, 0, 0, nil},
		{2, 3, 5, nil},
		{-2, 3, 1, nil},
		{2, -3, -1, nil},
		{-2, -3, -5, nil},
		{most, 0, most, nil},
		{0, most, most, nil},
		{least, 0, least, nil},
		{0, least, least, nil},
		{most, least, -1, nil},
		{least, most, -1, nil},
		{most - 1, 1, most, nil},
		{1, most - 1, most, nil},
		{least + 1, -1, least, nil},
		{-1, least + 1, least, nil},
		{1 << 62, 1<<62 - 1, most, nil},
		{-1 << 62, -1 << 62, least, nil},
		{most, 1, 0, api.ErrRange},
		{1, most, 0, api.ErrRange},
		{least, -1, 0, api.ErrRange},
		{-1, least, 0, api.ErrRange},
		{1 << 62, 1 << 62, 0, api.ErrRange},
		{-1 << 62, -1<<62 - 1, 0, api.ErrRange},
		{most, most, 0, api.ErrRange},
		{least, least, 0, api.ErrRange},
	})
}

// P1.1
func TestSub(t *testing.T) {
	checkRows(t, "Sub", Sub, []row{
		{0, 0, 0, nil},
		{5, 3, 2, nil},
		{3, 5, -2, nil},
		{-5, -3, -2, nil},
		{5, -3, 8, nil},
		{most, 0, most, nil},
		{least, 0, least, nil},
		{0, most, least + 1, nil},
		{-1, most, least, nil},
		{-1, least, most, nil},
		{most, most, 0, nil},
		{least, least, 0, nil},
		{most - 1, -1, most, nil},
		{least + 1, 1, least, nil},
		{0, least + 1, most, nil},
		{0, least, 0, api.ErrRange},
		{-2, most, 0, api.ErrRange},
		{most, -1, 0, api.ErrRange},
		{least, 1, 0, api.ErrRange},
		{most, least, 0, api.ErrRange},
		{least, most, 0, api.ErrRange},
	})
}

// P1.2
func TestFloor(t *testing.T) {
	checkRows(t, "Floor", Floor, []row{
		{0, 10, 0, nil},
		{9, 10, 0, nil},
		{10, 10, 1, nil},
		{19, 10, 1, nil},
		{-1, 10, -1, nil},
		{-9, 10, -1, nil},
		{-10, 10, -1, nil},
		{-11, 10, -2, nil},
		{-20, 10, -2, nil},
		{most, 1, most, nil},
		{least, 1, least, nil},
		{most, 2, 1<<62 - 1, nil},
		{least, 2, -1 << 62, nil},
		{least + 1, 2, -1 << 62, nil},
		{most, most, 1, nil},
		{most - 1, most, 0, nil},
		{-1, most, -1, nil},
		{-most, most, -1, nil},
		{least, most, -2, nil},
		{0, 0, 0, api.ErrArg},
		{7, 0, 0, api.ErrArg},
		{7, -1, 0, api.ErrArg},
		{-20, -10, 0, api.ErrArg},
		{least, -1, 0, api.ErrArg},
		{least, 0, 0, api.ErrArg},
		{most, least, 0, api.ErrArg},
	})
}

// P1.2
func TestDown(t *testing.T) {
	checkRows(t, "Down", Down, []row{
		{0, 10, 0, nil},
		{9, 10, 0, nil},
		{10, 10, 10, nil},
		{19, 10, 10, nil},
		{-1, 10, -10, nil},
		{-9, 10, -10, nil},
		{-10, 10, -10, nil},
		{-11, 10, -20, nil},
		{most, 1, most, nil},
		{least, 1, least, nil},
		{most, 10, most - 7, nil},
		{least, 2, least, nil},
		{least, 1 << 62, least, nil},
		{least + 8, 10, least + 8, nil},
		{most, most, most, nil},
		{-1, most, -most, nil},
		{-most, most, -most, nil},
		{least + 7, 10, 0, api.ErrRange},
		{least, 10, 0, api.ErrRange},
		{least, 3, 0, api.ErrRange},
		{least, most, 0, api.ErrRange},
		{-1<<62 - 1, 1<<62 + 1, -1<<62 - 1, nil},
		{-1<<62 - 2, 1<<62 + 1, 0, api.ErrRange},
		{0, 0, 0, api.ErrArg},
		{7, 0, 0, api.ErrArg},
		{7, -1, 0, api.ErrArg},
		{-20, -10, 0, api.ErrArg},
		{most, least, 0, api.ErrArg},
	})
}

// R1: Down names ErrArg ahead of ErrRange, and so it is answered even where no multiple could fit.
func TestDownNamesArgFirst(t *testing.T) {
	for _, b := range []int64{0, -1, -3, -10, -most, least} {
		if got, err := Down(least, b); got != 0 || err != api.ErrArg {
			t.Errorf("Down(least, %d) = %d, %v; want 0, %v", b, got, err, api.ErrArg)
		}
	}
}

// numbers are those around which sums, quotients and multiples stop to fit, or change their sign.
func numbers() []int64 {
	var list []int64
	for _, middle := range []int64{0, 10, -10, 1 << 31, -1 << 31, 1 << 32, -1 << 32, 3037000500, 1 << 62, -1 << 62} {
		for d := int64(-3); d <= 3; d++ {
			list = append(list, middle+d)
		}
	}
	for d := int64(0); d <= 12; d++ {
		list = append(list, least+d, most-d)
	}
	return append(list, most/3, least/3, most/7, least/7)
}

func fitted(exact *big.Int) (int64, error) {
	if !exact.IsInt64() {
		return 0, api.ErrRange
	}
	return exact.Int64(), nil
}

func exactAdd(a, b int64) (int64, error) {
	return fitted(new(big.Int).Add(big.NewInt(a), big.NewInt(b)))
}

func exactSub(a, b int64) (int64, error) {
	return fitted(new(big.Int).Sub(big.NewInt(a), big.NewInt(b)))
}

// bigFloor goes by Euclid's division, which rounds down where the divisor is above 0.
func bigFloor(a, b int64) *big.Int {
	return new(big.Int).Div(big.NewInt(a), big.NewInt(b))
}

func exactFloor(a, b int64) (int64, error) {
	if b < 1 {
		return 0, api.ErrArg
	}
	return fitted(bigFloor(a, b))
}

func exactDown(a, b int64) (int64, error) {
	if b < 1 {
		return 0, api.ErrArg
	}
	return fitted(new(big.Int).Mul(bigFloor(a, b), big.NewInt(b)))
}

// P1.1, P1.2, R3, P1: at every pair the answer is that of exact integers, 0 beside an error, and no call panics.
func TestAgainstExactIntegers(t *testing.T) {
	calls := []struct {
		name        string
		call, exact function
	}{
		{"Add", Add, exactAdd},
		{"Sub", Sub, exactSub},
		{"Floor", Floor, exactFloor},
		{"Down", Down, exactDown},
	}
	for _, c := range calls {
		for _, a := range numbers() {
			for _, b := range numbers() {
				want, wantErr := c.exact(a, b)
				if got, err := c.call(a, b); got != want || err != wantErr {
					t.Errorf("%s(%d, %d) = %d, %v; want %d, %v", c.name, a, b, got, err, want, wantErr)
				}
			}
		}
	}
}

// P1.3
func TestAddedAndTakenOffAgain(t *testing.T) {
	for _, a := range numbers() {
		for _, b := range numbers() {
			if sum, err := Add(a, b); err == nil {
				if back, err := Sub(sum, b); back != a || err != nil {
					t.Errorf("Sub(Add(%d, %d), %d) = %d, %v", a, b, b, back, err)
				}
			}
			if diff, err := Sub(a, b); err == nil {
				if back, err := Add(diff, b); back != a || err != nil {
					t.Errorf("Add(Sub(%d, %d), %d) = %d, %v", a, b, b, back, err)
				}
			}
		}
	}
}

// P1.3: the upper end is told by big integers, as it need not fit where a is among the greatest.
func TestDownIsJustBelow(t *testing.T) {
	for _, a := range numbers() {
		for _, b := range numbers() {
			down, err := Down(a, b)
			if err != nil {
				continue
			}
			upper := new(big.Int).Add(big.NewInt(down), big.NewInt(b))
			if down > a || upper.Cmp(big.NewInt(a)) <= 0 || down%b != 0 {
				t.Errorf("Down(%d, %d) = %d", a, b, down)
			}
		}
	}
}

// P1.2, P1.3: Down is b times Floor, wherever Down has an answer.
func TestDownIsFloorTimes(t *testing.T) {
	for _, a := range numbers() {
		for _, b := range numbers() {
			down, downErr := Down(a, b)
			floor, floorErr := Floor(a, b)
			if downErr == nil && (floorErr != nil || floor*b != down) {
				t.Errorf("Down(%d, %d) = %d, but Floor is %d, %v", a, b, down, floor, floorErr)
			}
		}
	}
}
