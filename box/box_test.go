package box

import (
	"errors"
	"math"
	"math/rand"
	"slices"
	"strings"
	"testing"

	"easel/api"
)

// made is a mailbox of that room, with these messages in it.
func made[T comparable](t *testing.T, room int, list ...T) *Box[T] {
	t.Helper()
	b, err := New[T](room)
	if b == nil || err != nil {
		t.Fatalf("New(%d) = %v, %v; want a mailbox", room, b, err)
	}
	for _, x := range list {
		puts(t, b, x, nil)
	}
	return b
}

// has holds how many are there, and whether it is closed, against what is to be.
func has[T comparable](t *testing.T, b *Box[T], count int, closed bool) {
	t.Helper()
	for range 2 {
		if b.Len() != count || b.Closed() != closed {
			t.Fatalf("Len() = %d, Closed() = %v; want %d, %v", b.Len(), b.Closed(), count, closed)
		}
	}
}

// puts asks for the error itself, and that with one nothing is changed.
func puts[T comparable](t *testing.T, b *Box[T], x T, want error) {
	t.Helper()
	count, closed := b.Len(), b.Closed()
	if want == nil {
		count++
	}
	if err := b.Put(x); err != want {
		t.Fatalf("Put(%#v) = %v; want %v", x, err, want)
	}
	has(t, b, count, closed)
}

func takes[T comparable](t *testing.T, b *Box[T], want T) {
	t.Helper()
	count, closed := b.Len(), b.Closed()
	if x, is := b.Take(); x != want || !is {
		t.Fatalf("Take() = %#v, %v; want %#v, true", x, is, want)
	}
	has(t, b, count-1, closed)
}

// isEmpty asks more than once, as a Take of none changes nothing.
func isEmpty[T comparable](t *testing.T, b *Box[T]) {
	t.Helper()
	closed := b.Closed()
	var zero T
	for range 3 {
		if x, is := b.Take(); x != zero || is {
			t.Fatalf("Take() of none = %#v, %v; want a zero one, false", x, is)
		}
		has(t, b, 0, closed)
	}
}

// empties takes all that are there, which are to be these.
func empties[T comparable](t *testing.T, b *Box[T], want ...T) {
	t.Helper()
	has(t, b, len(want), b.Closed())
	for _, x := range want {
		takes(t, b, x)
	}
	isEmpty(t, b)
}

func closes[T comparable](t *testing.T, b *Box[T], want bool) {
	t.Helper()
	count := b.Len()
	if got := b.Close(); got != want {
		t.Fatalf("Close() = %v; want %v", got, want)
	}
	has(t, b, count, true)
}

// numbers are so many, from the first on, none of them 0.
func numbers(first, many int) []int {
	list := make([]int, many)
	for i := range list {
		list[i] = first + i
	}
	return list
}

// P10.1, R3: with the error no mailbox is told.
func TestNewOfRoomsThatMayNotBe(t *testing.T) {
	for _, room := range []int{math.MinInt, math.MinInt + 1, math.MinInt32, -17, -16, -2, -1, 0, 17, 18, 32, 256, 257, 1<<16 + 1, math.MaxInt32, math.MaxInt - 1, math.MaxInt} {
		if b, err := New[int](room); b != nil || err != api.ErrArg {
			t.Errorf("New(%d) = %v, %v; want nil, ErrArg", room, b, err)
		}
		if b, err := New[*string](room); b != nil || err != api.ErrArg {
			t.Errorf("New(%d) of pointers = %v, %v; want nil, ErrArg", room, b, err)
		}
	}
}

// P10.1
func TestNewOfRoomsThatMayBe(t *testing.T) {
	for room := 1; room <= 16; room++ {
		b := made[int](t, room)
		has(t, b, 0, false)
		isEmpty(t, b)
		closes(t, b, true)
	}
	if api.MaxCap != 16 {
		t.Errorf("MaxCap is %d; want 16", api.MaxCap)
	}
}

// P10.1: each room has just as many messages; with ErrFull none of them is changed.
func TestPutUntilFull(t *testing.T) {
	for room := 1; room <= 16; room++ {
		list := numbers(1, room)
		b := made(t, room, list...)
		for _, x := range []int{0, 1, room, 99} {
			puts(t, b, x, api.ErrFull)
		}
		empties(t, b, list...)
	}
}

// P10.1: what is full has room again behind a Take, for one.
func TestPutIntoOneThatWasFull(t *testing.T) {
	for room := 1; room <= 16; room++ {
		b := made(t, room, numbers(1, room)...)
		for next := range 3 * room {
			puts(t, b, 99, api.ErrFull)
			takes(t, b, next+1)
			puts(t, b, room+next+1, nil)
			puts(t, b, 99, api.ErrFull)
		}
		empties(t, b, numbers(3*room+1, room)...)
		for _, x := range numbers(1, room) {
			puts(t, b, x, nil)
		}
		puts(t, b, 99, api.ErrFull)
		empties(t, b, numbers(1, room)...)
	}
}

// P10.1: into one that is closed, with each number of messages that may be there.
func TestPutIntoOneThatIsClosed(t *testing.T) {
	for room := 1; room <= 16; room++ {
		for many := range room + 1 {
			list := numbers(1, many)
			b := made(t, room, list...)
			closes(t, b, true)
			for _, x := range []int{0, 1, many, 99} {
				puts(t, b, x, api.ErrClosed)
			}
			empties(t, b, list...)
			puts(t, b, 99, api.ErrClosed)
			isEmpty(t, b)
		}
	}
}

// P10.1, R1: closed is told ahead of full; and what isn't put when it is full, isn't put later either.
func TestPutIntoOneThatIsFullAndClosed(t *testing.T) {
	b := made(t, 2, "a", "b")
	puts(t, b, "c", api.ErrFull)
	closes(t, b, true)
	puts(t, b, "c", api.ErrClosed)
	takes(t, b, "a")
	puts(t, b, "c", api.ErrClosed)
	empties(t, b, "b")
	puts(t, b, "c", api.ErrClosed)
}

// The chapter: errors are told themselves, so that they are asked for in any way.
func TestErrorsThemselves(t *testing.T) {
	_, err := New[int](0)
	full := made(t, 1, 5)
	closed := made(t, 1, 5)
	closed.Close()
	rows := []struct {
		got  error
		want api.Code
	}{{err, api.ErrArg}, {full.Put(6), api.ErrFull}, {closed.Put(6), api.ErrClosed}}
	for _, r := range rows {
		var code api.Code
		if r.got != r.want || !errors.Is(r.got, r.want) || !errors.As(r.got, &code) || code != r.want {
			t.Errorf("%v; want %v itself", r.got, r.want)
		}
	}
}

// P10.1: a zero one is a message like others: alone, between others, and as often as there is room.
func TestPutOfZeroOnes(t *testing.T) {
	for room := 1; room <= 16; room++ {
		list := make([]int, room)
		for range 3 {
			b := made(t, room, list...)
			puts(t, b, 0, api.ErrFull)
			empties(t, b, list...)
			list[room/2]++ // zero ones ahead of it, and behind it
		}
	}
	empties(t, made(t, 3, "", "a", ""), "", "a", "")
	empties(t, made(t, 3, message{}, message{kind: 1}, message{}), message{}, message{kind: 1}, message{})
	x := &message{}
	empties(t, made(t, 3, nil, x, nil), nil, x, nil)
	empties[error](t, made[error](t, 3, nil, api.ErrNone, nil), nil, api.ErrNone, nil)
	empties(t, made(t, 2, false, true), false, true)
	empties(t, made(t, 2, struct{}{}, struct{}{}), struct{}{}, struct{}{})
}

// message is as those of layer 14 are: numbers, texts, a struct and a pointer.
type message struct {
	kind, from int
	call       api.Call
	state      *[4]int
}

// P10.1: of none there is a zero one, also of what was there and is gone.
func TestTakeOfNone(t *testing.T) {
	isEmpty(t, made[int](t, 1))
	isEmpty(t, made[string](t, 1))
	isEmpty(t, made[message](t, 1))
	isEmpty(t, made[*message](t, 1))
	isEmpty(t, made[error](t, 1))
	isEmpty(t, made[[3]string](t, 1))
	x := &message{kind: 1}
	for room := 1; room <= 16; room++ {
		empties(t, made(t, room, 5), 5)
		empties(t, made(t, room, "a"), "a")
		empties(t, made(t, room, *x), *x)
		empties(t, made(t, room, x), x)
		empties(t, made(t, room, error(api.ErrNone)), error(api.ErrNone))
		empties(t, made(t, room, [3]string{"a"}), [3]string{"a"})
	}
}

// P10.1: who was put in first is taken first, whatever they are: falling, rising, or alike.
func TestTakeInOrder(t *testing.T) {
	rows := [][]int{
		{5}, {5, 6}, {6, 5}, {5, 5}, {3, 2, 1}, {1, 2, 3}, {2, 3, 1}, {1, 1, 2, 1, 1}, {0, 1, 0},
		{math.MaxInt, math.MinInt, -1, 0, 1}, {16, 15, 14, 13, 12, 11, 10, 9, 8, 7, 6, 5, 4, 3, 2, 1},
	}
	for _, list := range rows {
		for room := len(list); room <= 16; room++ {
			empties(t, made(t, room, list...), list...)
		}
	}
}

// P10.1: Len and Closed change nothing, however often they are asked.
func TestLenAndClosedChangeNothing(t *testing.T) {
	b := made(t, 3, "a", "b")
	for range 100 {
		has(t, b, 2, false)
	}
	puts(t, b, "c", nil)
	closes(t, b, true)
	for range 100 {
		has(t, b, 3, true)
	}
	empties(t, b, "a", "b", "c")
}

// P10.1, P10.2: of each room, with each number of messages, one goes in and one goes out, many times over.
func TestGoesRound(t *testing.T) {
	for room := 1; room <= 16; room++ {
		for many := range room + 1 {
			first, next := 1, many+1
			b := made(t, room, numbers(first, many)...)
			for range 5*room + 1 {
				if many < room {
					puts(t, b, next, nil)
					takes(t, b, first)
				} else {
					puts(t, b, next, api.ErrFull)
					takes(t, b, first)
					puts(t, b, next, nil)
				}
				first, next = first+1, next+1
			}
			has(t, b, many, false)
			empties(t, b, numbers(first, many)...)
		}
	}
}

// P10.1, P10.2: likewise by more than one at once: so many go in, so many go out, from each number on.
func TestGoesRoundByMany(t *testing.T) {
	for room := 1; room <= 16; room++ {
		for many := range room {
			for step := 1; many+step <= room; step++ {
				first, next := 1, many+1
				b := made(t, room, numbers(first, many)...)
				for range 40 {
					for range step {
						puts(t, b, next, nil)
						next++
					}
					for range step {
						takes(t, b, first)
						first++
					}
				}
				empties(t, b, numbers(first, many)...)
			}
		}
	}
}

// P10.1: what is filled and emptied is as a new one, again and again.
func TestFilledAndEmptied(t *testing.T) {
	for room := 1; room <= 16; room++ {
		b := made[int](t, room)
		for round := range 20 {
			list := numbers(1+100*round, room)
			for _, x := range list {
				puts(t, b, x, nil)
			}
			puts(t, b, 99, api.ErrFull)
			empties(t, b, list...)
		}
		closes(t, b, true)
		puts(t, b, 99, api.ErrClosed)
	}
}

// P10.1: only the first Close tells true, with each number of messages; what is there stays, and is taken in order.
func TestClose(t *testing.T) {
	for room := 1; room <= 16; room++ {
		for many := range room + 1 {
			list := numbers(1, many)
			b := made(t, room, list...)
			has(t, b, many, false)
			closes(t, b, true)
			closes(t, b, false)
			for i, x := range list {
				has(t, b, many-i, true)
				takes(t, b, x)
				puts(t, b, 99, api.ErrClosed)
				closes(t, b, false)
			}
			isEmpty(t, b)
			closes(t, b, false)
			puts(t, b, 99, api.ErrClosed)
			isEmpty(t, b)
		}
	}
}

// P10.1: likewise where what is there has gone round, and some of it was taken.
func TestCloseOfOneThatWentRound(t *testing.T) {
	for room := 1; room <= 16; room++ {
		for gone := range 2*room + 1 {
			b := made(t, room, numbers(1, room)...)
			for i := range gone {
				takes(t, b, i+1)
				puts(t, b, room+i+1, nil)
			}
			takes(t, b, gone+1)
			closes(t, b, true)
			puts(t, b, 99, api.ErrClosed)
			empties(t, b, numbers(gone+2, room-1)...)
			has(t, b, 0, true)
		}
	}
}

// P10.1: no Put, Take or ErrFull closes one.
func TestClosed(t *testing.T) {
	b := made[string](t, 1)
	has(t, b, 0, false)
	puts(t, b, "a", nil)
	puts(t, b, "b", api.ErrFull)
	has(t, b, 1, false)
	takes(t, b, "a")
	isEmpty(t, b)
	has(t, b, 0, false)
	puts(t, b, "c", nil)
	closes(t, b, true)
	has(t, b, 1, true)
	takes(t, b, "c")
	has(t, b, 0, true)
	isEmpty(t, b)
	has(t, b, 0, true)
}

// The chapter's example.
func TestExample(t *testing.T) {
	b := made[int](t, 1)
	puts(t, b, 5, nil)
	puts(t, b, 6, api.ErrFull)
	takes(t, b, 5)
	isEmpty(t, b)
}

// P10.1: messages are of any type.
func TestOfTexts(t *testing.T) {
	list := []string{"b", "", "a", "a", "\x00", "\xff\xfe", "é", strings.Repeat("k", 1000)}
	b := made(t, len(list), list...)
	puts(t, b, "more", api.ErrFull)
	empties(t, b, list...)
}

// P10.1: likewise; each field comes back as it was put.
func TestOfStructs(t *testing.T) {
	list := []message{
		{kind: 1, from: 2, call: api.Call{Op: api.Ingest, Key: "a", Time: math.MinInt64, Value: math.MaxInt64}},
		{kind: 1, from: 2, call: api.Call{Op: api.QueryPane, Key: "a", Time: -5, End: 5}},
		{kind: 4, call: api.Call{Group: 3, Shard: -1}, state: new([4]int)},
		{},
	}
	b := made(t, len(list), list...)
	puts(t, b, list[0], api.ErrFull)
	closes(t, b, true)
	empties(t, b, list...)
}

// P10.1: a pointer comes back as it was put: what it points to isn't copied, and isn't changed.
func TestOfPointers(t *testing.T) {
	x, y := &message{kind: 1}, &message{kind: 1}
	b := made(t, 4, x, y, nil, x)
	puts(t, b, y, api.ErrFull)
	if *x != (message{kind: 1}) || *y != *x {
		t.Errorf("what was put points to %v, %v", *x, *y)
	}
	x.from = 7
	for _, want := range []*message{x, y, nil, x} {
		takes(t, b, want)
	}
	if *x != (message{kind: 1, from: 7}) || *y != (message{kind: 1}) {
		t.Errorf("what was taken points to %v, %v", *x, *y)
	}
	isEmpty(t, b)
}

// P10.1, P1: likewise of types whose values can't be held against each other.
func TestOfTypesThatAreNotComparable(t *testing.T) {
	lists, err := New[[]int](2)
	if err != nil || lists.Put([]int{1, 2}) != nil || lists.Put(nil) != nil || lists.Put([]int{3}) != api.ErrFull {
		t.Fatal("of lists")
	}
	if x, is := lists.Take(); !slices.Equal(x, []int{1, 2}) || !is {
		t.Errorf("Take() = %v, %v; want 1 2, true", x, is)
	}
	if x, is := lists.Take(); x != nil || !is {
		t.Errorf("Take() = %v, %v; want nil, true", x, is)
	}
	if x, is := lists.Take(); x != nil || is {
		t.Errorf("Take() of none = %v, %v; want nil, false", x, is)
	}
	anything, err := New[any](3)
	if err != nil || anything.Put(map[string]int{"a": 1}) != nil || anything.Put(func() {}) != nil || anything.Put([]int{1}) != nil || anything.Put(5) != api.ErrFull {
		t.Fatal("of anything")
	}
	for range 3 {
		if x, is := anything.Take(); x == nil || !is {
			t.Errorf("Take() = %v, %v; want what was put, true", x, is)
		}
	}
	if x, is := anything.Take(); x != nil || is || anything.Len() != 0 {
		t.Errorf("Take() of none = %v, %v; want nil, false", x, is)
	}
}

// R2: what was told stays as it is, whatever is put and taken behind it; what was put may be changed by who put it.
func TestMessagesAreNewMemory(t *testing.T) {
	x := [3]int{1, 2, 3}
	b := made(t, 2, x)
	x[0] = 9
	told, _ := b.Take()
	for i := range 10 {
		puts(t, b, [3]int{i, i, i}, nil)
		takes(t, b, [3]int{i, i, i})
	}
	if told != [3]int{1, 2, 3} || x != [3]int{9, 2, 3} {
		t.Errorf("what was told is %v, what was put %v", told, x)
	}
	told[1] = 9
	puts(t, b, [3]int{4, 5, 6}, nil)
	told[2] = 9
	empties(t, b, [3]int{4, 5, 6})
}

// P10.1: two mailboxes know nothing of each other, be their rooms, types and messages alike or not.
func TestTwoMailboxes(t *testing.T) {
	one, two, texts := made(t, 2, 1), made[int](t, 2), made(t, 1, "a")
	has(t, two, 0, false)
	isEmpty(t, two)
	puts(t, two, 5, nil)
	puts(t, one, 2, nil)
	puts(t, one, 3, api.ErrFull)
	has(t, two, 1, false)
	puts(t, two, 6, nil)
	closes(t, one, true)
	has(t, two, 2, false)
	puts(t, one, 3, api.ErrClosed)
	puts(t, two, 7, api.ErrFull)
	takes(t, two, 5)
	puts(t, two, 7, nil)
	has(t, texts, 1, false)
	empties(t, one, 1, 2)
	has(t, two, 2, false)
	closes(t, two, true)
	closes(t, one, false)
	empties(t, two, 6, 7)
	puts(t, texts, "b", api.ErrFull)
	empties(t, texts, "a")
	has(t, texts, 0, false)
}

// listed is what a mailbox is, as a plain list: gone are those that were taken.
type listed struct {
	room      int
	put, gone []int
	closed    bool
}

func (l *listed) len() int { return len(l.put) - len(l.gone) }

func (l *listed) putOne(x int) error {
	switch {
	case l.closed:
		return api.ErrClosed
	case l.len() == l.room:
		return api.ErrFull
	}
	l.put = append(l.put, x)
	return nil
}

// step does one of the calls with both, and holds their answers against each other.
func (l *listed) step(t *testing.T, b *Box[int], call, x int) {
	t.Helper()
	switch call {
	case 0:
		puts(t, b, x, l.putOne(x))
	case 1:
		if l.len() == 0 {
			isEmpty(t, b)
			break
		}
		got, is := b.Take()
		if want := l.put[len(l.gone)]; got != want || !is {
			t.Fatalf("Take() = %d, %v; want %d, true", got, is, want)
		}
		l.gone = append(l.gone, got)
	case 2:
		closes(t, b, !l.closed)
		l.closed = true
	}
	has(t, b, l.len(), l.closed)
	if b.Len() > l.room {
		t.Fatalf("%d are there, of room %d", b.Len(), l.room)
	}
}

// done takes what is left: all that was put is taken then, once, in order.
func (l *listed) done(t *testing.T, b *Box[int]) {
	t.Helper()
	for l.len() > 0 {
		l.step(t, b, 1, 0)
	}
	isEmpty(t, b)
	if !slices.Equal(l.put, l.gone) {
		t.Fatalf("%v were taken; %v were put", l.gone, l.put)
	}
}

// P10.1, P10.2: every order of up to nine calls, for small rooms. Messages are told apart; the first one is 0.
func TestEachOrderOfCalls(t *testing.T) {
	const many = 9
	orders := 1
	for range many {
		orders *= 3
	}
	for room := 1; room <= 3; room++ {
		for order := range orders {
			b, l := made[int](t, room), &listed{room: room}
			for x := range many {
				l.step(t, b, order%3, x)
				order /= 3
			}
			l.done(t, b)
		}
	}
}

// P10.1, P10.2: many calls in any order, for each room; some seeds fill it, some empty it, some close it early.
func TestManyCalls(t *testing.T) {
	for room := 1; room <= 16; room++ {
		for seed := range int64(40) {
			r := rand.New(rand.NewSource(seed))
			b, l := made[int](t, room), &listed{room: room}
			toPut, closeAt, kinds := 2+r.Intn(5), r.Intn(1000), 1+20*int(seed) // of messages: from all alike on
			for i := range 600 {
				call := 1
				if r.Intn(8) < toPut {
					call = 0
				}
				if i >= closeAt && r.Intn(10) == 0 {
					call = 2
				}
				l.step(t, b, call, r.Intn(kinds))
			}
			l.done(t, b)
		}
	}
}

// P1: no call panics, and each ends, in whatever state the mailbox is.
func TestNoPanic(t *testing.T) {
	for room := -20; room <= 20; room++ {
		b, err := New[*message](room)
		if err != nil {
			continue
		}
		for i := range 200 {
			for range i % 20 {
				b.Put(nil)
				b.Put(&message{})
			}
			for range i % 30 {
				b.Take()
			}
			if i > 100 {
				b.Close()
			}
			b.Len()
			b.Closed()
		}
	}
}

// Nothing is held of messages that are gone, neither ahead of those that are there nor behind them.
func TestNothingIsKeptOfWhatIsGone(t *testing.T) {
	for room := 1; room <= 16; room++ {
		for many := range room + 1 {
			b := made[*message](t, room)
			for range room {
				b.Put(new(message))
			}
			all := b.list[:cap(b.list)]
			for range many {
				b.Take()
			}
			kept := 0
			for _, x := range all {
				if x != nil {
					kept++
				}
			}
			if kept != room-many {
				t.Errorf("room %d, %d taken: %d are kept; want %d", room, many, kept, room-many)
			}
		}
	}
}
