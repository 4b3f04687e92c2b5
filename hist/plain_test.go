package hist

import (
	"slices"
	"testing"

	"easel/api"
)

// aheadBy is the chapter's words once more.
func aheadBy(a, b api.Event) bool {
	if a.End <= 0 {
		return false
	}
	return b.Begin > a.End
}

// orderBy is the chapter's words once more: each place stands behind as many as there are lesser Points, and alike ones that
// stand ahead of it.
func orderBy(l []api.Event) []int {
	count := 0
	for _, e := range l {
		if e.Point != 0 {
			count++
		}
	}
	list := make([]int, count)
	for i, e := range l {
		if e.Point == 0 {
			continue
		}
		behind := 0
		for k, other := range l {
			if other.Point != 0 && (other.Point < e.Point || other.Point == e.Point && k < i) {
				behind++
			}
		}
		list[behind] = i
	}
	return list
}

// fineBy is the chapter's words once more: one event, two events, one client.
func fineBy(l []api.Event) bool {
	for i, e := range l {
		if e.Client < 0 || e.N < 0 || e.Begin < 1 {
			return false
		}
		if e.Point < 0 || e.Point > 0 && e.Point < e.Begin {
			return false
		}
		if e.End < 0 || e.End > 0 && (e.Point == 0 || e.End < e.Point) {
			return false
		}
		for _, other := range l[:i] {
			if e.Point > 0 && other.Point == e.Point {
				return false
			}
		}
		if !clientBy(l, e.Client) {
			return false
		}
	}
	return true
}

func clientBy(l []api.Event, client int) bool {
	var its []api.Event
	for _, e := range l {
		if e.Client == client {
			its = append(its, e)
		}
	}
	for n, e := range its {
		if e.N != n {
			return false
		}
		if n+1 < len(its) && !aheadBy(e, its[n+1]) {
			return false
		}
	}
	return true
}

// at is an event of these numbers.
func at(client, n, begin, point, end int) api.Event {
	return api.Event{Client: client, N: n, Begin: begin, Point: point, End: end}
}

// numbers is what of an event plays a part.
func numbers(l []api.Event) [][5]int {
	var list [][5]int
	for _, e := range l {
		list = append(list, [5]int{e.Client, e.N, e.Begin, e.Point, e.End})
	}
	return list
}

// fine holds what Fine tells.
func fine(t *testing.T, want bool, l ...api.Event) {
	t.Helper()
	if fineBy(l) != want {
		t.Fatalf("by the words, of %v it is %t; want %t", numbers(l), !want, want)
	}
	for range 2 {
		if got := Fine(l); got != want {
			t.Fatalf("Fine(%v) = %t; want %t", numbers(l), got, want)
		}
	}
}

// ordered holds what Order tells.
func ordered(t *testing.T, l []api.Event, want ...int) {
	t.Helper()
	for range 2 {
		if got := Order(l); !slices.Equal(got, want) {
			t.Fatalf("Order(%v) = %v; want %v", numbers(l), got, want)
		}
	}
}

// byWords holds all that is told of a list against the chapter's words, and tells whether it is fine.
func byWords(t *testing.T, l []api.Event) bool {
	t.Helper()
	want := fineBy(l)
	if got := Fine(l); got != want {
		t.Fatalf("Fine(%v) = %t; want %t", numbers(l), got, want)
	}
	if got, want := Order(l), orderBy(l); !slices.Equal(got, want) {
		t.Fatalf("Order(%v) = %v; want %v", numbers(l), got, want)
	}
	for _, a := range l {
		for _, b := range l {
			if got, want := Ahead(a, b), aheadBy(a, b); got != want {
				t.Fatalf("Ahead(%+v, %+v) = %t; want %t", a, b, got, want)
			}
		}
	}
	return want
}

// standsAhead holds P19.3 of a list, and tells of how many pairs one is ahead of the other one.
func standsAhead(t *testing.T, l []api.Event) int {
	t.Helper()
	order, pairs := Order(l), 0
	for i, a := range order {
		for k, b := range order {
			if !Ahead(l[a], l[b]) {
				continue
			}
			pairs++
			if i >= k {
				t.Fatalf("of %v the %d-th is ahead of the %d-th, and the order is %v", numbers(l), a, b, order)
			}
		}
	}
	return pairs
}
