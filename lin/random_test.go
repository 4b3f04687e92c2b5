package lin

import (
	"math/rand"
	"slices"
	"testing"

	"easel/api"
	"easel/model"
)

// every is each list of so many of these, one behind the other.
func every(from []api.Event, count int, do func(l []api.Event)) {
	l := make([]api.Event, count)
	var put func(i int)
	put = func(i int) {
		if i == count {
			do(l)
			return
		}
		for _, e := range from {
			l[i] = e
			put(i + 1)
		}
	}
	put(0)
}

// tally is how often each error was told, and how often none.
type tally map[error]int

// has holds that each of these came up so often, at least.
func (n tally) has(t *testing.T, often int, list ...error) {
	t.Helper()
	for _, err := range list {
		if n[err] < often {
			t.Errorf("too little came up: %v", n)
		}
	}
}

// P20.1: every list of up to three events, of few calls, each with few replies, in every order of Points.
func TestEverySmallHistory(t *testing.T) {
	var from []api.Event
	for _, x := range []api.Call{try("a", 3, 5), put("a", 3, 5), advance(10), query("a"), shut(), try("", 3, 5)} {
		for _, code := range []int{api.OK, api.Late, api.Full, api.Closed, api.Stale, api.Bad} {
			from = append(from, came(x, code))
		}
	}
	from = append(from, came(query("a"), api.OK, pane("a", 0, 10, 5)), came(query("a"), api.OK, pane("a", 0, 10, 5, 5)), came(try("a", 3, 5), api.Full, pane("a", 0, 10, 5)))
	count := tally{}
	for n := range 4 {
		all := orders(n)
		at := 0
		every(from, n, func(l []api.Event) {
			// Of three, one order each, by turns; of fewer, every order.
			some := all
			if n == 3 {
				at = (at + 1) % len(all)
				some = all[at : at+1]
			}
			for _, order := range some {
				for i, point := range order {
					l[i].Client, l[i].Begin, l[i].Point = i, 1, point+1
				}
				count[byWords(t, tumbling(), l)]++
			}
		})
	}
	count.has(t, 500, nil)
	count.has(t, 10000, api.ErrOrder)
}

// drawn is a config of small numbers.
func drawn(r *rand.Rand) api.Config {
	c := api.Config{Kind: r.Intn(3), Size: 1 + r.Int63n(12), Gap: 1 + r.Int63n(8), Late: r.Int63n(3) * r.Int63n(6)}
	c.Slide = 1 + r.Int63n(c.Size)
	c.Shards, c.Groups, c.Cap = 1+r.Intn(4), 1+r.Intn(5), 1+r.Intn(3)
	return c
}

// drawnCall is a call, mostly one that may be.
func drawnCall(r *rand.Rand, closes int) api.Call {
	key := keys()[r.Intn(3)]
	at := r.Int63n(50)
	switch n := r.Intn(100); {
	case n < 30:
		return put(key, at, r.Int63n(100)-50)
	case n < 55:
		return try(key, at, r.Int63n(100)-50)
	case n < 61:
		return window(key, at, at+r.Int63n(12))
	case n < 75:
		return query(key)
	case n < 86:
		return advance(at)
	case n < 92:
		return move(r.Intn(6)-1, r.Intn(5)-1)
	case n < 92+closes:
		return shut()
	case n < 97:
		odd := []int64{least, most, -1}
		return api.Call{Op: 1 + r.Intn(3), Key: key, Time: odd[r.Intn(3)], Value: odd[r.Intn(3)]}
	case n < 98:
		return try("", at, 5)
	}
	return api.Call{Op: []int{0, 8, -1, most, least}[r.Intn(5)], Key: key, Time: at}
}

// maker is a model, and clients whose calls it does: tick by tick one of them begins, has its point, or is done.
type maker struct {
	r     *rand.Rand
	c     api.Config
	m     *model.Model
	l     []api.Event
	under map[int]int // of each client, the place of its event that is under way, or was last
	full  int         // how often, of 10, a TryIngest is Full
	tick  int
}

// made is a history that the model made, with clients in turn, of so many ticks.
func made(t *testing.T, r *rand.Rand, ticks int) maker {
	t.Helper()
	k := maker{r: r, c: drawn(r), under: map[int]int{}, full: r.Intn(2) * r.Intn(7)}
	k.m = behind(t, k.c, nil)
	clients, closes := 1+r.Intn(6), r.Intn(3)
	for range ticks {
		k.tick += 1 + r.Intn(2)
		k.goes(r.Intn(clients), closes)
	}
	return k
}

// goes is a tick of a client. All three may be in one.
func (k *maker) goes(client, closes int) {
	i, is := k.under[client]
	if !is || k.l[i].End > 0 && k.l[i].End < k.tick {
		e := api.Event{Client: client, Call: drawnCall(k.r, closes), Begin: k.tick}
		if is {
			e.N = k.l[i].N + 1
		}
		i = len(k.l)
		k.l = append(k.l, e)
		k.under[client] = i
		if k.r.Intn(2) == 0 {
			return
		}
	}
	e := &k.l[i]
	if e.Point == 0 {
		e.Point, e.Reply = k.tick, k.comes(e.Call)
		if k.r.Intn(2) == 0 {
			return
		}
	}
	if e.End == 0 {
		e.End = k.tick
	}
}

func (k *maker) comes(x api.Call) api.Reply {
	if x.Op == api.TryIngest && len(x.Key) > 0 && k.r.Intn(10) < k.full {
		return api.Reply{Code: api.Full}
	}
	return k.m.Do(x)
}

// mixes puts events in another order, but for that of each client's.
func mixes(r *rand.Rand, l []api.Event) []api.Event {
	left := map[int][]api.Event{}
	var clients []int
	for _, e := range l {
		left[e.Client] = append(left[e.Client], e)
		clients = append(clients, e.Client)
	}
	r.Shuffle(len(clients), func(i, j int) { clients[i], clients[j] = clients[j], clients[i] })
	var list []api.Event
	for _, n := range clients {
		list = append(list, left[n][0])
		left[n] = left[n][1:]
	}
	return list
}

// P20.1, P20.2: a history that the model made, with clients in turn, is its own, however it stands; the model that is told is as
// the one that made it. With a reply that is turned it isn't: but a TryIngest that may be is Full without being done.
func TestHistoriesOfTheModel(t *testing.T) {
	var codes [7]int
	open, turned := 0, 0
	for seed := range int64(1500) {
		r := rand.New(rand.NewSource(seed))
		k := made(t, r, 5+r.Intn(90))
		for _, l := range [][]api.Event{k.l, mixes(r, k.l)} {
			looksAlike(t, checked(t, k.c, l), k.m)
		}
		for range 4 {
			if len(k.l) == 0 {
				break
			}
			i := r.Intn(len(k.l))
			l := copied(k.l)
			codes[l[i].Reply.Code]++
			list := unlike(l[i].Reply)
			l[i].Reply = list[r.Intn(len(list))]
			free := l[i].Reply.Code == api.Full && l[i].Call.Op == api.TryIngest && len(l[i].Call.Key) > 0
			if l[i].Point == 0 {
				looksAlike(t, checked(t, k.c, l), k.m)
				open++
				continue
			}
			if free || k.l[i].Reply.Code == api.Full {
				byWords(t, k.c, l)
				continue
			}
			turned++
			if m, err := Check(k.c, l); m != nil || !is(err, api.ErrOrder) {
				t.Fatalf("seed %d: %+v was turned to %+v, and Check = %v, %v", seed, k.l[i], l[i], m, err)
			}
		}
		alike(t, checked(t, k.c, k.l), k.m)
	}
	for code, n := range codes {
		if n < 25 {
			t.Errorf("of code %d there were %d (of all: %v)", code, n, codes)
		}
	}
	if open < 200 || turned < 3000 {
		t.Errorf("too little came up: %d without a Point, %d turned", open, turned)
	}
}

// P20.2: of a history that the model made, without a Full, every reply that is turned, but to Full of a TryIngest.
func TestEveryReplyTurned(t *testing.T) {
	for seed := range int64(25) {
		r := rand.New(rand.NewSource(seed))
		k := made(t, r, 40)
		for i, e := range k.l {
			if e.Point == 0 || e.Reply.Code == api.Full {
				continue
			}
			for _, reply := range unlike(e.Reply) {
				if reply.Code == api.Full && e.Call.Op == api.TryIngest {
					continue
				}
				l := slices.Clone(k.l)
				l[i].Reply = reply
				if m, err := Check(k.c, l); m != nil || !is(err, api.ErrOrder) {
					t.Fatalf("seed %d: %+v was turned to %+v, and Check = %v, %v", seed, e, reply, m, err)
				}
			}
		}
	}
}

// turn turns one thing of a history, or two.
func turn(r *rand.Rand, c api.Config, l []api.Event) []api.Event {
	i, k := r.Intn(len(l)), r.Intn(len(l))
	by := []int{-2, -1, 1, 2}[r.Intn(4)]
	switch r.Intn(12) {
	case 0:
		l[i].Client = l[k].Client
	case 1:
		l[i].N += by
	case 2:
		l[i].Begin += by
	case 3:
		l[i].Point += by
	case 4:
		l[i].End += by
	case 5:
		l[i].Point, l[k].Point = l[k].Point, l[i].Point
	case 6:
		l[i], l[k] = l[k], l[i]
	case 7:
		return slices.Delete(l, i, i+1)
	case 8:
		l[i].Reply.Code = r.Intn(8)
	case 9:
		l[i].Call, l[k].Call = l[k].Call, l[i].Call
		if r.Intn(2) == 0 {
			l[i].Reply, l[k].Reply = l[k].Reply, l[i].Reply
		}
	case 10:
		l[i].Call = drawnCall(r, 1)
	case 11:
		// It has none any more, where it may.
		l[i].Point, l[i].End = 0, 0
	}
	return l
}

// P20.1: histories of the model's with something turned, and what is no history at all, by the words.
func TestRandomTurned(t *testing.T) {
	count := tally{}
	for seed := range int64(3000) {
		r := rand.New(rand.NewSource(seed))
		k := made(t, r, 3+r.Intn(40))
		for range 12 {
			l := turn(r, k.c, copied(k.l))
			if len(l) > 0 && r.Intn(4) == 0 {
				l = turn(r, k.c, l)
			}
			c := k.c
			if r.Intn(20) == 0 {
				c = drawn(r)
			}
			count[byWords(t, c, l)]++
		}
	}
	count.has(t, 3000, nil, api.ErrArg, api.ErrOrder)
}

// P20.1: any events, with small replies, that mostly don't fit.
func TestRandomEvents(t *testing.T) {
	count := tally{}
	for seed := range int64(60000) {
		r := rand.New(rand.NewSource(seed))
		c := drawn(r)
		var l []api.Event
		for i := range r.Intn(5) {
			e := came(drawnCall(r, 5), []int{0, 0, 0, 0, 1, 2, 2, 3, 4, 5, 6, 7, -1}[r.Intn(13)])
			e.Client, e.Begin, e.Point = i, 1+r.Intn(3), 3+r.Intn(60)
			if r.Intn(5) == 0 {
				e.Reply.Panes = []api.Pane{pane(e.Call.Key, e.Call.Time, e.Call.End, 5)}
			}
			if r.Intn(6) == 0 {
				e.Point = 0
			}
			if e.Point > 0 && r.Intn(2) == 0 {
				e.End = e.Point + r.Intn(3)
			}
			if r.Intn(40) == 0 {
				e.N++
			}
			l = append(l, e)
		}
		if r.Intn(40) == 0 {
			c.Cap = 17 * r.Intn(2)
		}
		count[byWords(t, c, l)]++
	}
	count.has(t, 1000, nil, api.ErrArg, api.ErrConfig, api.ErrOrder)
}

// P1: it ends, and doesn't panic, at the ends of all numbers, with keys of any length; by the words.
func TestAllArguments(t *testing.T) {
	numbers := []int{least, least + 1, -1 << 32, -2, -1, 0, 1, 2, 3, 7, 1 << 32, most - 1, most}
	names := []string{"", "a", "12345678901234567890", "123456789012345678901", "\xff", "\x00"}
	configs := append(kinds(), wrongConfigs()...)
	for _, kind := range []int{0, 1, 2} {
		configs = append(configs, api.Config{Kind: kind, Size: most, Slide: most, Gap: most, Late: most, Shards: 8, Groups: 16, Cap: 16})
		configs = append(configs, api.Config{Kind: kind, Size: 1, Slide: 1, Gap: 1, Late: most, Shards: 1, Groups: 1, Cap: 1})
	}
	count := tally{}
	for seed := range int64(40000) {
		r := rand.New(rand.NewSource(seed))
		number := func() int { return numbers[r.Intn(len(numbers))] }
		c := configs[r.Intn(3)]
		if r.Intn(3) == 0 {
			c = configs[r.Intn(len(configs))]
		}
		var l []api.Event
		for i := range r.Intn(5) {
			e := api.Event{Client: i, Begin: 1, Point: r.Intn(50)}
			e.Call = api.Call{Op: number(), Key: names[r.Intn(len(names))], Time: int64(number()), Value: int64(number()), End: int64(number()), Group: number(), Shard: number()}
			if r.Intn(3) > 0 {
				e.Call.Op = r.Intn(9)
			}
			e.Reply.Code = []int{api.OK, api.Bad, api.BadTime, api.Full, number()}[r.Intn(5)]
			if r.Intn(10) == 0 {
				e = api.Event{Client: number(), N: number(), Begin: number(), Point: number(), End: number(), Call: e.Call, Reply: e.Reply}
			}
			l = append(l, e)
		}
		count[byWords(t, c, l)]++
	}
	count.has(t, 1000, nil, api.ErrArg, api.ErrConfig, api.ErrOrder)
}
