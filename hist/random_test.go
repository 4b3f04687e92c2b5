package hist

import (
	"math/rand"
	"slices"
	"testing"

	"easel/api"
)

// every is each list of so many of these, one behind the other.
func every(from []api.Event, count int, do func(l []api.Event)) {
	l := make([]api.Event, count)
	var put func(i int)
	put = func(i int) {
		if i == count {
			do(l)
			return
		}
		for _, e := range from {
			l[i] = e
			put(i + 1)
		}
	}
	put(0)
}

// ranges are all events of these numbers.
func ranges(clients, ns, begins, points, ends []int) []api.Event {
	var l []api.Event
	for _, client := range clients {
		for _, n := range ns {
			for _, begin := range begins {
				for _, point := range points {
					for _, end := range ends {
						l = append(l, at(client, n, begin, point, end))
					}
				}
			}
		}
	}
	return l
}

// P19.1, P19.3: every list of one, and of two events of small numbers.
func TestEveryOneAndTwo(t *testing.T) {
	from := ranges([]int{-1, 0, 1}, []int{-1, 0, 1, 2}, []int{-1, 0, 1, 2, 3}, []int{-1, 0, 1, 2, 3}, []int{-1, 0, 1, 2, 3})
	every(from, 1, func(l []api.Event) { byWords(t, l) })
	from = ranges([]int{-1, 0, 1}, []int{0, 1}, []int{0, 1, 2}, []int{-1, 0, 1, 2, 3}, []int{-1, 0, 1, 2, 3})
	many := 0
	every(from, 2, func(l []api.Event) {
		if byWords(t, l) {
			standsAhead(t, l)
			many++
		}
	})
	if many < 200 {
		t.Errorf("%d were fine", many)
	}
}

// P19.1, P19.3: every list of three events of small numbers, of which each may be.
func TestEveryThree(t *testing.T) {
	var from []api.Event
	for _, e := range ranges([]int{0, 1}, []int{0, 1, 2}, []int{1, 2}, []int{0, 1, 2, 3}, []int{0, 1, 2, 3}) {
		alone := e
		alone.N = 0
		if fineBy([]api.Event{alone}) {
			from = append(from, e)
		}
	}
	many, pairs := 0, 0
	every(from, 3, func(l []api.Event) {
		if got, want := Fine(l), fineBy(l); got != want {
			t.Fatalf("Fine(%v) = %t; want %t", numbers(l), got, want)
		}
		if got, want := Order(l), orderBy(l); !slices.Equal(got, want) {
			t.Fatalf("Order(%v) = %v; want %v", numbers(l), got, want)
		}
		if Fine(l) {
			pairs += standsAhead(t, l)
			many++
		}
	})
	if many < 200 || pairs < 200 {
		t.Errorf("%d were fine, with %d pairs", many, pairs)
	}
}

// drawnFine is a fine history: clients go on side by side, and stand woven in any order.
func drawnFine(r *rand.Rand) []api.Event {
	numbers := []int{0, 1, 2, 3, 5, 17, 1 << 40, most - 1, most}
	r.Shuffle(len(numbers), func(i, j int) { numbers[i], numbers[j] = numbers[j], numbers[i] })
	wide := 1 + r.Intn(30) // how far ticks are from each other
	taken := map[int]bool{}
	var left [][]api.Event
	for _, client := range numbers[:r.Intn(7)] {
		left = append(left, drawnClient(r, client, wide, taken))
	}
	var l []api.Event
	for len(left) > 0 {
		i := r.Intn(len(left))
		if len(left[i]) == 0 {
			left = slices.Delete(left, i, i+1)
			continue
		}
		l = append(l, left[i][0])
		left[i] = left[i][1:]
	}
	return l
}

// drawnClient are a client's events, at Points that aren't taken.
func drawnClient(r *rand.Rand, client, wide int, taken map[int]bool) []api.Event {
	var l []api.Event
	tick := r.Intn(wide)
	for n := range r.Intn(8) {
		e := at(client, n, tick+1+r.Intn(wide), 0, 0)
		l = append(l, e)
		if r.Intn(8) == 0 {
			break
		}
		e.Point = e.Begin + r.Intn(wide)
		for taken[e.Point] {
			e.Point++
		}
		taken[e.Point] = true
		l[n] = e
		if r.Intn(8) == 0 {
			break
		}
		l[n].End = e.Point + r.Intn(wide)
		tick = l[n].End
	}
	return l
}

// P19.1, P19.3: of fine histories each one that is ahead of another one stands ahead of it in the order, if both are there;
// and those that are no more fine by one turned number, two changed places, one event more or less, are by the words, too.
func TestRandomFine(t *testing.T) {
	var count [2]int
	pairs := 0
	for seed := range int64(8000) {
		r := rand.New(rand.NewSource(seed))
		l := drawnFine(r)
		if !byWords(t, l) {
			t.Fatalf("seed %d: %v isn't fine by the words", seed, numbers(l))
		}
		pairs += standsAhead(t, l)
		if len(l) == 0 {
			continue
		}
		for range 12 {
			turned := turn(r, slices.Clone(l))
			if byWords(t, turned) {
				standsAhead(t, turned)
				count[1]++
			} else {
				count[0]++
			}
		}
	}
	if pairs < 10000 || count[0] < 10000 || count[1] < 10000 {
		t.Errorf("too little came up: %d pairs, %v turned", pairs, count)
	}
}

// turn turns one thing.
func turn(r *rand.Rand, l []api.Event) []api.Event {
	i, k := r.Intn(len(l)), r.Intn(len(l))
	by := []int{-2, -1, 1, 2}[r.Intn(4)]
	switch r.Intn(10) {
	case 0:
		l[i].Client = l[k].Client
	case 1:
		l[i].N += by
	case 2:
		l[i].Begin += by
	case 3:
		l[i].Point += by
	case 4:
		l[i].End += by
	case 5:
		l[i].Point = l[k].Point
	case 6:
		l[i].End = l[k].Begin
	case 7:
		l[i], l[k] = l[k], l[i]
	case 8:
		return slices.Delete(l, i, i+1)
	case 9:
		return slices.Insert(l, i, l[k])
	}
	return l
}

// P19.1: lists of any events.
func TestRandomLists(t *testing.T) {
	edges := []int{least, least + 1, -1 << 32, -2, -1, 0, 1, 2, 3, 1 << 32, most - 1, most}
	many, few, pairs := 0, 0, 0
	for seed := range int64(20000) {
		r := rand.New(rand.NewSource(seed))
		odd := r.Intn(40)
		number := func(from, below int) int {
			if r.Intn(40) < odd-30 {
				return edges[r.Intn(len(edges))]
			}
			return from + r.Intn(below-from)
		}
		var l []api.Event
		for i := range r.Intn(6) {
			e := at(number(0, 3), number(0, 2), number(1, 9), 0, 0)
			if r.Intn(4) > 0 {
				e.Begin = number(8*i+1, 8*i+9)
				e.N = len(slices.DeleteFunc(slices.Clone(l), func(other api.Event) bool { return other.Client != e.Client }))
			}
			if r.Intn(4) > 0 {
				e.Point = number(e.Begin%99, e.Begin%99+9)
			}
			if r.Intn(3) > 0 {
				e.End = number(e.Point%99, e.Point%99+5)
			}
			l = append(l, e)
		}
		if byWords(t, l) && len(l) > 1 {
			pairs += standsAhead(t, l)
			many++
		} else if len(l) > 1 {
			few++
		}
	}
	if many < 500 || few < 500 || pairs < 500 {
		t.Errorf("too little came up: %d were fine, %d weren't, %d pairs", many, few, pairs)
	}
}
