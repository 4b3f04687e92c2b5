package lin

import (
	"slices"
	"testing"

	"easel/api"
	"easel/call"
	"easel/model"
)

// busy is a history that has gone out in part, by Sliding 10, 5 and Late 2; in its order only TryIngests that are Full, and an
// event without a Point, aren't done.
func busy() []api.Event {
	l := row(
		came(put("a", 3, 5), api.OK), came(try("b", 4, 6), api.OK), came(put("a", 11, 7), api.OK), came(try("a", 12, 8), api.Full), came(advance(8), api.OK),
		came(query("a"), api.OK, pane("a", 0, 10, 5), pane("a", 5, 15, 7), pane("a", 10, 20, 7)), came(put("b", 2, 9), api.OK),
		came(window("b", 0, 10), api.OK, pane("b", 0, 10, 6, 9)), came(put("user-17", 20, 1), api.OK), came(advance(17), api.OK), came(advance(16), api.Stale),
		came(query("a"), api.OK, pane("a", 10, 20, 7)), came(move(1, 1), api.OK), came(put("b", 3, 3), api.Late),
	)
	return append(l, api.Event{Client: 1, Call: shut(), Begin: 3, Reply: api.Reply{Panes: []api.Pane{{Key: "x"}}}})
}

func busyOut() []api.Pane {
	return []api.Pane{pane("a", -5, 5, 5), pane("b", -5, 5, 6), pane("a", 0, 10, 5), pane("b", 0, 10, 6, 9), pane("a", 5, 15, 7)}
}

// stands holds that a model is as it is behind those events.
func stands(t *testing.T, m *model.Model) {
	t.Helper()
	if m.Mark() != 17 || !slices.Equal(m.Out(), busyOut()) {
		t.Fatalf("Mark() = %d, Out() = %+v; want 17, %+v", m.Mark(), m.Out(), busyOut())
	}
	for key, want := range map[string][]api.Pane{"a": {pane("a", 10, 20, 7)}, "b": nil, "user-17": {pane("user-17", 15, 25, 1), pane("user-17", 20, 30, 1)}, "none": nil, "x": nil, "": nil} {
		if got := m.Panes(key); !slices.Equal(got, want) {
			t.Fatalf("Panes(%q) = %+v; want %+v", key, got, want)
		}
	}
}

// P20.1: the model that is told is the one behind all: its watermark, its output, its panes.
func TestModelBehindAll(t *testing.T) {
	checks(t, sliding(), nil, busy()...)
	stands(t, checked(t, sliding(), busy()))
	l := busy()
	slices.Reverse(l[len(l)-2:])
	stands(t, checked(t, sliding(), l))
}

// P20.1: what further calls come to is what they come to behind all: records of before are there, what is Late is Late, what is
// closed is closed.
func TestFurtherCalls(t *testing.T) {
	for _, next := range []struct {
		x    api.Call
		want api.Reply
	}{
		{put("a", 14, 9), api.Reply{}}, {put("a", 9, 9), api.Reply{Code: api.Late}}, {advance(17), api.Reply{Code: api.Stale}}, {advance(18), api.Reply{}},
		{query("a"), api.Reply{Panes: []api.Pane{pane("a", 10, 20, 7)}}}, {window("user-17", 20, 30), api.Reply{Panes: []api.Pane{pane("user-17", 20, 30, 1)}}},
		{query("b"), api.Reply{}}, {shut(), api.Reply{}}, {move(4, 2), api.Reply{}}, {move(5, 2), api.Reply{Code: api.Bad}}, {move(4, 3), api.Reply{Code: api.Bad}},
		{put("a", most, 1), api.Reply{Code: api.BadTime}}, {api.Call{}, api.Reply{Code: api.Bad}},
	} {
		m := checked(t, sliding(), busy())
		if got := m.Do(next.x); !sameBy(got, next.want) {
			t.Errorf("Do(%+v) = %+v; want %+v", next.x, got, next.want)
		}
		closed := append(busy(), api.Event{Client: 2, Call: shut(), Begin: 100, Point: 100})
		m = checked(t, sliding(), closed)
		want := api.Reply{Code: api.Closed}
		if !call.May(sliding(), next.x) {
			want.Code = api.Bad
		}
		if got := m.Do(next.x); !sameBy(got, want) {
			t.Errorf("behind a Close Do(%+v) = %+v; want %+v", next.x, got, want)
		}
		stands(t, m)
	}
}

// P20.1: a history goes on where one ended: whatever the model that is told does next is the model's, with what came to that.
func TestGoesOn(t *testing.T) {
	for _, c := range kinds() {
		var l []api.Event
		for i, x := range append(further(), further()...) {
			m := checked(t, c, l)
			e := api.Event{Client: i % 3, N: i / 3, Call: x, Reply: m.Do(x), Begin: 3*i + 1, Point: 3*i + 2, End: 3*i + 3}
			l = append(l, e)
			if two := checked(t, c, l); looks(m) != looks(two) {
				t.Fatalf("behind %+v the model is\n%s\nwant\n%s", l, looks(two), looks(m))
			}
		}
		checks(t, c, nil, l...)
	}
}

// spoil writes over events, and over their panes, and over the room behind them.
func spoil(l []api.Event) {
	for i := range l {
		spoilPanes(l[i].Reply.Panes)
		l[i] = api.Event{Client: -9, N: -9, Call: shut(), Reply: api.Reply{Code: -9}, Begin: -9, Point: -9, End: -9}
	}
	_ = append(l, api.Event{Client: -9})
}

func spoilPanes(l []api.Pane) {
	for i := range l {
		l[i] = api.Pane{Key: "spoilt", Agg: api.Agg{Count: -9}}
	}
	_ = append(l, api.Pane{Key: "spoilt"})
}

// R2: the model has nothing of the events' memory.
func TestModelIsNew(t *testing.T) {
	l := busy()
	m := checked(t, sliding(), l)
	spoil(l)
	stands(t, m)
	alike(t, m, checked(t, sliding(), busy()))
}

// R2: the events have nothing of the model's, whatever it does, and whatever is written over that it told.
func TestEventsStay(t *testing.T) {
	l := busy()
	m := checked(t, sliding(), l)
	for _, x := range append([]api.Call{query("a"), query("user-17"), window("a", 10, 20)}, further()...) {
		for _, key := range keys() {
			spoilPanes(m.Panes(key))
		}
		spoilPanes(m.Out())
		spoilPanes(m.Do(x).Panes)
		if !sameEvents(l, busy()) {
			t.Fatalf("behind %+v the events are %+v", x, l)
		}
	}
}

// R2: what is handed in is as it was, and so is what stands behind its end; also where the answer is an error.
func TestHandedInStays(t *testing.T) {
	more := append(busy(), api.Event{Client: 5, Begin: 7, Call: query("b"), Reply: api.Reply{Code: 1, Panes: []api.Pane{{Key: "y"}}}})
	for _, c := range []api.Config{sliding(), tumbling(), {}} {
		for n := range len(more) + 1 {
			l := copied(more)
			for i := range l {
				// Panes with room behind them.
				room := append(slices.Clone(l[i].Reply.Panes), api.Pane{Key: "behind"}, api.Pane{Key: "it"})
				l[i].Reply.Panes = room[:len(room)-2]
			}
			Check(c, l[:n])
			if !sameEvents(l, more) {
				t.Fatalf("Check made of %+v these: %+v", more, l)
			}
			for i, e := range l {
				room := e.Reply.Panes[:len(e.Reply.Panes)+2]
				if room[len(room)-2].Key != "behind" || room[len(room)-1].Key != "it" {
					t.Fatalf("behind the panes of the event %d there are %+v", i, room)
				}
			}
		}
	}
}

// R2: two models of the same events are apart, and each is as the events have it.
func TestTwoModels(t *testing.T) {
	l := busy()
	one, two := checked(t, sliding(), l), checked(t, sliding(), l)
	if one == two {
		t.Fatal("one model twice")
	}
	spoilPanes(one.Out())
	for _, x := range further() {
		one.Do(x)
		stands(t, two)
	}
	stands(t, checked(t, sliding(), l))
	alike(t, two, checked(t, sliding(), l))
	// Of none of the calls there is anything left for one who asks next.
	empty := checked(t, sliding(), nil)
	empty.Do(shut())
	empty.Do(advance(5))
	if m := checked(t, sliding(), nil); m == empty || m.Mark() != least || !sameBy(m.Do(put("a", 3, 5)), api.Reply{}) {
		t.Errorf("of no events the model is %+v", m)
	}
}

// R3: beside an error there is no model, also where many calls were done ahead of what doesn't fit.
func TestNoModelBesideErrors(t *testing.T) {
	l := append(busy(), api.Event{Client: 2, Call: shut(), Reply: api.Reply{Code: api.Late}, Begin: 100, Point: 100})
	checks(t, sliding(), api.ErrOrder, l...)
	l[0].Begin = 0
	checks(t, sliding(), api.ErrArg, l...)
	checks(t, api.Config{}, api.ErrConfig, l...)
	for _, x := range []struct {
		c api.Config
		l []api.Event
	}{{sliding(), l}, {sliding(), l[1:]}, {api.Config{}, l}, {api.Config{}, nil}} {
		if m, err := Check(x.c, x.l); m != nil || err == nil {
			t.Errorf("Check(%+v, %+v) = %v, %v", x.c, x.l, m, err)
		}
	}
}
