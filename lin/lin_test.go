package lin

import (
	"math"
	"slices"
	"testing"

	"easel/api"
)

const (
	least = math.MinInt64
	most  = math.MaxInt64
)

// P20.1: the chapter's example, and what may follow a Close that came to OK.
func TestCloseTwice(t *testing.T) {
	for _, c := range kinds() {
		follow(t, c, nil, came(shut(), api.OK))
		follow(t, c, api.ErrOrder, came(shut(), api.Closed))
		follow(t, c, api.ErrOrder, came(shut(), api.OK), came(shut(), api.OK))
		follow(t, c, nil, came(shut(), api.OK), came(shut(), api.Closed))
		follow(t, c, nil, came(shut(), api.OK), came(shut(), api.Closed), came(shut(), api.Closed))
		follow(t, c, api.ErrOrder, came(shut(), api.Closed), came(shut(), api.OK))
		follow(t, c, api.ErrOrder, came(shut(), api.OK), came(shut(), api.Closed), came(shut(), api.OK))
		follow(t, c, nil, came(put("a", 3, 5), api.OK), came(shut(), api.OK), came(put("a", 3, 5), api.Closed), came(query("a"), api.Closed))
		follow(t, c, api.ErrOrder, came(shut(), api.OK), came(put("a", 3, 5), api.OK))
	}
}

// state is what was done ahead of a call.
func state(n int) []api.Event {
	switch n {
	case 1:
		return []api.Event{came(put("a", 3, 5), api.OK)}
	case 2:
		return []api.Event{came(put("a", 3, 5), api.OK), came(advance(10), api.OK)}
	case 3:
		return []api.Event{came(put("a", 3, 5), api.OK), came(shut(), api.OK)}
	}
	return nil
}

// ends are events, each with the number of what was done ahead of it, by Tumbling 10.
func ends() map[int][]api.Event {
	p := pane("a", 0, 10, 5)
	return map[int][]api.Event{
		0: {
			came(put("a", 3, 5), 0), came(put("a", most, 5), 4), came(put("", 3, 5), 6), came(put("123456789012345678901", 3, 5), 6),
			came(try("a", 3, 5), 0), came(try("a", least, 5), 4), came(try("", 3, 5), 6),
			came(advance(10), 0), came(advance(most), 0), came(advance(least), 5), came(advance(least+1), 0),
			came(window("a", 0, 10), 0), came(window("a", 0, 9), 0), came(window("a", 3, 3), 6), came(window("", 0, 10), 6),
			came(query("a"), 0), came(query(""), 6),
			came(move(0, 0), 0), came(move(3, 1), 0), came(move(4, 1), 6), came(move(3, 2), 6), came(move(-1, 0), 6), came(move(0, -1), 6),
			came(shut(), 0),
			came(api.Call{}, 6), came(api.Call{Op: 8, Key: "a"}, 6), came(api.Call{Op: -1}, 6), came(api.Call{Op: most}, 6), came(api.Call{Op: least}, 6),
		},
		1: {
			came(put("a", 4, 6), 0), came(try("a", 4, 6), 0), came(window("a", 0, 10), 0, p), came(window("a", 0, 11), 0), came(window("b", 0, 10), 0),
			came(query("a"), 0, p), came(query("b"), 0), came(shut(), 0), came(move(2, 1), 0), came(advance(0), 0),
		},
		2: {
			came(put("a", 4, 6), 1), came(put("b", 9, 6), 1), came(put("a", 10, 6), 0), came(put("a", most, 6), 4), came(put("", 4, 6), 6),
			came(try("a", 4, 6), 1), came(try("a", 10, 6), 0), came(try("a", most-7, 6), 4), came(try("", 4, 6), 6),
			came(advance(10), 5), came(advance(9), 5), came(advance(least), 5), came(advance(11), 0),
			came(window("a", 0, 10), 0), came(query("a"), 0), came(move(0, 1), 0), came(shut(), 0), came(api.Call{Op: 9}, 6),
		},
		3: {
			came(put("a", 4, 6), 3), came(put("a", most, 6), 3), came(put("", 4, 6), 6), came(try("a", 4, 6), 3), came(try("", 4, 6), 6),
			came(advance(10), 3), came(advance(least), 3), came(window("a", 0, 10), 3), came(window("a", 1, 0), 6), came(query("a"), 3), came(query(""), 6),
			came(move(0, 1), 3), came(move(0, 2), 6), came(shut(), 3), came(api.Call{}, 6), came(api.Call{Op: 8}, 6),
		},
	}
}

// unlike are replies that another one isn't: of other codes, with one pane more or less, a number or a key that is turned, and
// panes in another order.
func unlike(r api.Reply) []api.Reply {
	var list []api.Reply
	for _, code := range []int{0, 1, 2, 3, 4, 5, 6, -1, 7, 8, 1 << 8, 1 << 32, r.Code + 1<<8, r.Code + 1<<32, -r.Code - 1, most, least} {
		if code != r.Code {
			list = append(list, api.Reply{Code: code, Panes: r.Panes})
		}
	}
	with := func(l []api.Pane) { list = append(list, api.Reply{Code: r.Code, Panes: l}) }
	for i := range len(r.Panes) + 1 {
		with(slices.Insert(slices.Clone(r.Panes), i, pane("a", 0, 10, 5)))
		with(slices.Insert(slices.Clone(r.Panes), i, api.Pane{}))
	}
	for i, p := range r.Panes {
		with(slices.Insert(slices.Clone(r.Panes), i, p))
		with(slices.Delete(slices.Clone(r.Panes), i, i+1))
		for _, other := range others(p) {
			l := slices.Clone(r.Panes)
			l[i] = other
			with(l)
		}
		for k, q := range r.Panes[:i] {
			l := slices.Clone(r.Panes)
			l[i], l[k] = q, p
			with(l)
		}
	}
	return list
}

// others are panes that differ from one in one thing each.
func others(p api.Pane) []api.Pane {
	var list []api.Pane
	with := func(set func(p *api.Pane)) {
		q := p
		set(&q)
		list = append(list, q)
	}
	for _, key := range []string{"", "z", p.Key + "\x00"} {
		with(func(p *api.Pane) { p.Key = key })
	}
	for _, by := range []int64{1, -1, 1 << 8, 1 << 32, least} {
		with(func(p *api.Pane) { p.Span.Start += by })
		with(func(p *api.Pane) { p.Span.End += by })
		with(func(p *api.Pane) { p.Agg.Count += int(by) })
		with(func(p *api.Pane) { p.Agg.Sum += by })
		with(func(p *api.Pane) { p.Agg.Min += by })
		with(func(p *api.Pane) { p.Agg.Max += by })
	}
	return list
}

// wanted is what a history comes to that ends with such an event.
func wanted(e api.Event, fits bool) error {
	undone := e.Reply.Code == api.Full && e.Call.Op == api.TryIngest && len(e.Call.Key) > 0 && len(e.Call.Key) <= 20
	if fits || undone {
		return nil
	}
	return api.ErrOrder
}

// P20.1: each Op, and such as there aren't, with each code, behind all that plays a part; the reply is turned in each way.
func TestEachOpWithEachCode(t *testing.T) {
	var seen [10][7]int
	for n, list := range ends() {
		for _, e := range list {
			follow(t, tumbling(), nil, append(state(n), e)...)
			if e.Call.Op >= 0 && e.Call.Op < 10 {
				seen[e.Call.Op][e.Reply.Code]++
			}
			for _, r := range unlike(e.Reply) {
				turned := api.Event{Call: e.Call, Reply: r}
				checks(t, tumbling(), wanted(turned, false), row(append(state(n), turned)...)...)
			}
		}
	}
	for op, codes := range [][]int{{6}, {0, 1, 3, 4, 6}, {0, 1, 3, 4, 6}, {0, 3, 5}, {0, 3, 6}, {0, 3, 6}, {0, 3, 6}, {0, 3}, {6}} {
		for _, code := range codes {
			if seen[op][code] == 0 {
				t.Errorf("no call of Op %d came to %d", op, code)
			}
		}
	}
}

// P20.1: the reply that is turned is the first one, or one in the middle.
func TestTurnedAhead(t *testing.T) {
	list := []api.Event{
		came(put("a", 3, 5), api.OK), came(put("a", 12, 6), api.OK), came(put("b", 4, 7), api.OK), came(query("a"), api.OK, pane("a", 0, 10, 5), pane("a", 10, 20, 6)),
		came(window("b", 0, 10), api.OK, pane("b", 0, 10, 7)), came(advance(10), api.OK), came(query("a"), api.OK, pane("a", 10, 20, 6)),
		came(put("b", 4, 8), api.Late), came(advance(10), api.Stale), came(move(4, 0), api.Bad), came(put("b", most, 9), api.BadTime),
		came(query("b"), api.OK), came(shut(), api.OK), came(query("b"), api.Closed),
	}
	follow(t, tumbling(), nil, list...)
	for i, e := range list {
		for _, r := range unlike(e.Reply) {
			l := slices.Clone(list)
			l[i].Reply = r
			checks(t, tumbling(), api.ErrOrder, row(l...)...)
			checks(t, tumbling(), api.ErrOrder, crowd(l...)...)
		}
	}
}

// P20.1: panes are the same only in order, of sliding windows, and of sessions, too.
func TestOrderOfPanes(t *testing.T) {
	a, b := pane("a", -5, 5, 5), pane("a", 0, 10, 5)
	follow(t, sliding(), nil, came(put("a", 3, 5), api.OK), came(query("a"), api.OK, a, b))
	follow(t, sliding(), api.ErrOrder, came(put("a", 3, 5), api.OK), came(query("a"), api.OK, b, a))
	follow(t, sliding(), api.ErrOrder, came(put("a", 3, 5), api.OK), came(query("a"), api.OK, a))
	follow(t, sliding(), api.ErrOrder, came(put("a", 3, 5), api.OK), came(query("a"), api.OK, b))
	follow(t, sliding(), api.ErrOrder, came(put("a", 3, 5), api.OK), came(query("a"), api.OK, a, b, b))
	follow(t, sliding(), nil, came(put("a", 3, 5), api.OK), came(advance(7), api.OK), came(query("a"), api.OK, b))
	follow(t, sliding(), api.ErrOrder, came(put("a", 3, 5), api.OK), came(advance(6), api.OK), came(query("a"), api.OK, b))
	follow(t, session(), nil, came(put("a", 3, 5), api.OK), came(put("a", 8, 6), api.OK), came(query("a"), api.OK, pane("a", 3, 7, 5), pane("a", 8, 12, 6)))
	follow(t, session(), nil, came(put("a", 3, 5), api.OK), came(put("a", 6, 6), api.OK), came(query("a"), api.OK, pane("a", 3, 10, 5, 6)))
	follow(t, session(), api.ErrOrder, came(put("a", 3, 5), api.OK), came(put("a", 6, 6), api.OK), came(query("a"), api.OK, pane("a", 3, 7, 5), pane("a", 6, 10, 6)))
}

// P20.1: no events, and none with a Point: the model of New.
func TestNoEvents(t *testing.T) {
	for _, c := range kinds() {
		for _, l := range [][]api.Event{nil, {}, make([]api.Event, 0, 5), row(came(shut(), 0))[:0]} {
			checks(t, c, nil, l...)
			m := checked(t, c, l)
			if m.Mark() != least || len(m.Out()) != 0 {
				t.Errorf("Mark() = %d, Out() = %+v", m.Mark(), m.Out())
			}
		}
	}
}

// P20.1: the order is that of Points, not that in which events stand, begin, or are done.
func TestOrderOfPoints(t *testing.T) {
	at := func(e api.Event, client, begin, point, end int) api.Event {
		e.Client, e.Begin, e.Point, e.End = client, begin, point, end
		return e
	}
	up, in, late := came(advance(10), api.OK), came(put("a", 3, 5), api.OK), came(put("a", 3, 5), api.Late)
	checks(t, tumbling(), nil, at(up, 0, 1, 3, 4), at(in, 1, 1, 2, 9))
	checks(t, tumbling(), nil, at(up, 0, 1, 3, 4), at(in, 1, 2, 2, 9))
	checks(t, tumbling(), nil, at(up, 0, 1, 3, 4), at(in, 1, 1, 2, 0))
	checks(t, tumbling(), nil, at(up, 0, 1, 3, 0), at(in, 1, 2, 2, 2))
	checks(t, tumbling(), nil, at(in, 0, 1, 3, 3), at(up, 1, 1, 4, 0))
	checks(t, tumbling(), api.ErrOrder, at(up, 0, 1, 2, 9), at(in, 1, 1, 3, 3))
	checks(t, tumbling(), api.ErrOrder, at(in, 0, 1, 3, 3), at(up, 1, 2, 2, 9))
	checks(t, tumbling(), nil, at(late, 0, 1, 3, 3), at(up, 1, 2, 2, 9))
	checks(t, tumbling(), api.ErrOrder, at(up, 0, 1, 3, 4), at(late, 1, 1, 2, 9))
	// As far apart as they can be.
	checks(t, tumbling(), nil, at(up, 0, 1, most, most), at(in, 1, 1, 1, 1))
	checks(t, tumbling(), api.ErrOrder, at(up, 0, 1, 1<<32+1, 0), at(late, 1, 1, 2, 0))
	checks(t, tumbling(), nil, at(up, 0, 1, 1<<32+1, 0), at(late, 1, 1, 1<<32+2, 0))
}

// orders are all orders of so many.
func orders(n int) [][]int {
	if n == 0 {
		return [][]int{nil}
	}
	var all [][]int
	for _, order := range orders(n - 1) {
		for i := range n {
			all = append(all, slices.Insert(slices.Clone(order), i, n-1))
		}
	}
	return all
}

// P20.1: of all orders of five calls' Points those are the model's that have the one order, in which the calls came to that,
// whatever the order is in which they stand.
func TestEachOrder(t *testing.T) {
	list := []api.Event{
		came(put("a", 3, 5), api.OK), came(query("a"), api.OK, pane("a", 0, 10, 5)), came(advance(10), api.OK), came(put("a", 4, 6), api.Late), came(shut(), api.OK),
	}
	lists := 0
	for _, order := range orders(len(list)) {
		l := slices.Clone(list)
		for i, point := range order {
			l[i].Client, l[i].Begin, l[i].Point = i, 1, point+1
		}
		var want error
		if !slices.IsSorted(order) {
			want = api.ErrOrder
		}
		for _, stand := range orders(len(list)) {
			var there []api.Event
			for _, i := range stand {
				there = append(there, l[i])
			}
			if _, err := Check(tumbling(), there); !is(err, want) {
				t.Fatalf("Check(%+v) = %v; want %v", there, err, want)
			}
			lists++
		}
		checks(t, tumbling(), want, l...)
	}
	if lists != 120*120 {
		t.Errorf("%d lists", lists)
	}
}

// P20.1: events without a Point play no part, whatever their reply, and their call, is; they are the last ones of their clients.
func TestWithoutPoint(t *testing.T) {
	list := row(came(put("a", 3, 5), api.OK), came(query("a"), api.OK, pane("a", 0, 10, 5)), came(advance(10), api.OK), came(put("a", 3, 5), api.Late))
	for _, x := range []api.Call{put("a", 4, 6), try("a", 4, 6), advance(20), window("a", 0, 10), query("a"), move(0, 1), shut(), {}, {Op: 8}, put("", 3, 5), try("", 3, 5)} {
		for _, r := range append(unlike(api.Reply{}), api.Reply{}) {
			e := api.Event{Client: 1, Call: x, Reply: r, Begin: 1}
			for i := range len(list) + 1 {
				l := slices.Insert(slices.Clone(list), i, e)
				if _, err := Check(tumbling(), l); err != nil {
					t.Fatalf("Check(%+v) = %v", l, err)
				}
			}
			mine := e
			mine.Client, mine.N, mine.Begin = 0, len(list), 100
			for _, l := range [][]api.Event{{e}, append(slices.Clone(list), mine), append([]api.Event{e}, append(slices.Clone(list), mine)...)} {
				checks(t, tumbling(), nil, l...)
			}
			// The same at a Point is done.
			mine.Point = 100
			if want := wanted(mine, sameBy(behind(t, tumbling(), list).Do(x), r)); want != nil {
				checks(t, tumbling(), want, append(slices.Clone(list), mine)...)
			}
		}
	}
	// Where all the others aren't the model's, it plays no part either.
	e := api.Event{Client: 1, Call: shut(), Begin: 1}
	list[3].Reply.Code = api.OK
	checks(t, tumbling(), api.ErrOrder, append([]api.Event{e}, list...)...)
	checks(t, tumbling(), nil, append([]api.Event{e}, list[:3]...)...)
}
