package lin

import (
	"cmp"
	"errors"
	"fmt"
	"maps"
	"slices"
	"strings"
	"testing"

	"easel/api"
	"easel/fnv"
	"easel/model"
	"easel/span"
)

// mayBy is layer 12's words once more, by a config that may be.
func mayBy(c api.Config, x api.Call) bool {
	switch x.Op {
	case 1, 2, 5:
		return fnv.May(x.Key)
	case 4:
		return fnv.May(x.Key) && span.May(api.Span{Start: x.Time, End: x.End})
	case 6:
		return 0 <= x.Group && x.Group < c.Groups && 0 <= x.Shard && x.Shard < c.Shards
	}
	return x.Op == 3 || x.Op == 7
}

// sameBy is layer 12's words once more.
func sameBy(a, b api.Reply) bool {
	if a.Code != b.Code || len(a.Panes) != len(b.Panes) {
		return false
	}
	for i := range a.Panes {
		if a.Panes[i] != b.Panes[i] {
			return false
		}
	}
	return true
}

// fineBy is layer 19's words once more.
func fineBy(l []api.Event) bool {
	points, count, last := map[int]bool{}, map[int]int{}, map[int]api.Event{}
	for _, e := range l {
		alone := e.Client >= 0 && e.Begin >= 1 && (e.Point == 0 || e.Point >= e.Begin) && (e.End == 0 || e.Point != 0 && e.End >= e.Point)
		before, is := last[e.Client]
		if !alone || points[e.Point] || e.N != count[e.Client] || is && (before.End == 0 || before.End >= e.Begin) {
			return false
		}
		if e.Point != 0 {
			points[e.Point] = true
		}
		count[e.Client]++
		last[e.Client] = e
	}
	return true
}

// doneBy are the events whose calls are done, by rising Points.
func doneBy(c api.Config, l []api.Event) []api.Event {
	by := map[int]api.Event{}
	for _, e := range l {
		if e.Point != 0 {
			by[e.Point] = e
		}
	}
	var done []api.Event
	for _, point := range slices.Sorted(maps.Keys(by)) {
		e := by[point]
		if e.Reply.Code == 2 && e.Call.Op == 2 && mayBy(c, e.Call) {
			continue
		}
		done = append(done, e)
	}
	return done
}

// behind is a model that did the calls of these, one behind the other.
func behind(t *testing.T, c api.Config, l []api.Event) *model.Model {
	t.Helper()
	m, err := model.New(c)
	if err != nil {
		t.Fatal(err)
	}
	for _, e := range l {
		m.Do(e.Call)
	}
	return m
}

// checkedBy is the chapter's words once more: each call is done by a model of its own, behind those ahead of it.
func checkedBy(t *testing.T, c api.Config, l []api.Event) error {
	t.Helper()
	if _, err := model.New(c); err != nil {
		return api.ErrConfig
	}
	if !fineBy(l) {
		return api.ErrArg
	}
	done := doneBy(c, l)
	for i, e := range done {
		if !sameBy(behind(t, c, done[:i]).Do(e.Call), e.Reply) {
			return api.ErrOrder
		}
	}
	return nil
}

// copied is a list, and its panes, in memory of their own, with no room behind them.
func copied(l []api.Event) []api.Event {
	list := make([]api.Event, 0, len(l))
	for _, e := range l {
		e.Reply.Panes = slices.Clone(e.Reply.Panes)
		list = append(list, e)
	}
	return slices.Clip(list)
}

func sameEvents(a, b []api.Event) bool {
	return slices.EqualFunc(a, b, func(x, y api.Event) bool {
		same := sameBy(x.Reply, y.Reply)
		return same && x.Client == y.Client && x.N == y.N && x.Call == y.Call && x.Begin == y.Begin && x.Point == y.Point && x.End == y.End
	})
}

// checks holds an answer of Check, asked twice, against what is wanted, and against the words.
func checks(t *testing.T, c api.Config, want error, l ...api.Event) {
	t.Helper()
	if by := checkedBy(t, c, l); !errors.Is(by, want) {
		t.Fatalf("by the words, of %+v, %+v it is %v; want %v", c, l, by, want)
	}
	for range 2 {
		given := copied(l)
		m, err := Check(c, given)
		switch {
		case !is(err, want):
			t.Fatalf("Check(%+v, %+v) = %v; want %v", c, l, err, want)
		case (m == nil) != (want != nil):
			t.Fatalf("Check(%+v, %+v): the model %v, beside %v", c, l, m, err)
		case !sameEvents(given, l):
			t.Fatalf("Check made of %+v these: %+v", l, given)
		}
		if m != nil {
			alike(t, m, behind(t, c, doneBy(c, l)))
		}
	}
}

// checked is the model of a history that is the model's.
func checked(t *testing.T, c api.Config, l []api.Event) *model.Model {
	t.Helper()
	m, err := Check(c, l)
	if err != nil || m == nil {
		t.Fatalf("Check(%+v, %+v) = %v, %v", c, l, m, err)
	}
	return m
}

// is tells whether an error is the Code itself, or none.
func is(err, want error) bool {
	if err == nil || want == nil {
		return err == nil && want == nil
	}
	code, one := err.(api.Code)
	return one && code == want
}

// byWords holds Check's answer against the words, and tells the error.
func byWords(t *testing.T, c api.Config, l []api.Event) error {
	t.Helper()
	want := checkedBy(t, c, l)
	m, err := Check(c, l)
	if !is(err, want) || (m == nil) != (want != nil) {
		t.Fatalf("Check(%+v, %+v) = %v, %v; want %v", c, l, m, err, want)
	}
	if m != nil {
		looksAlike(t, m, behind(t, c, doneBy(c, l)))
	}
	return want
}

// keys are those that events here have, and one that none has.
func keys() []string { return []string{"a", "b", "user-17", "none"} }

// looks is all that a model tells of itself, as a text.
func looks(m *model.Model) string {
	list := []string{fmt.Sprintf("%d %+v", m.Mark(), m.Out())}
	for _, key := range keys() {
		list = append(list, fmt.Sprintf("%q: %+v", key, m.Panes(key)))
	}
	return strings.Join(list, "\n")
}

func looksAlike(t *testing.T, a, b *model.Model) {
	t.Helper()
	if x, y := looks(a), looks(b); x != y {
		t.Fatalf("the model is\n%s\nwant\n%s", x, y)
	}
}

// alike holds that two models are, also by what further calls come to.
func alike(t *testing.T, a, b *model.Model) {
	t.Helper()
	looksAlike(t, a, b)
	for i, x := range further() {
		if one, two := a.Do(x), b.Do(x); !sameBy(one, two) {
			t.Fatalf("the further call %d, %+v, comes to %+v; want %+v", i, x, one, two)
		}
		looksAlike(t, a, b)
	}
}

// further are calls by which one sees what a model has.
func further() []api.Call {
	var l []api.Call
	for _, key := range keys() {
		l = append(l, query(key), window(key, 0, 10), put(key, 4, 9), try(key, 17, 8), query(key))
	}
	return append(l, advance(8), query("a"), advance(25), query("user-17"), move(1, 1), put("b", 31, 7), query("b"), advance(90), shut(), query("a"), shut())
}

func put(key string, time, value int64) api.Call {
	return api.Call{Op: api.Ingest, Key: key, Time: time, Value: value}
}

func try(key string, time, value int64) api.Call {
	return api.Call{Op: api.TryIngest, Key: key, Time: time, Value: value}
}

func advance(time int64) api.Call { return api.Call{Op: api.Advance, Time: time} }

func window(key string, start, end int64) api.Call {
	return api.Call{Op: api.QueryPane, Key: key, Time: start, End: end}
}

func query(key string) api.Call { return api.Call{Op: api.QueryKey, Key: key} }

func move(group, shard int) api.Call {
	return api.Call{Op: api.Rebalance, Group: group, Shard: shard}
}

func shut() api.Call { return api.Call{Op: api.Close} }

// pane is one of a key's window that has these values.
func pane(key string, start, end int64, values ...int64) api.Pane {
	a := api.Agg{Count: len(values), Min: slices.Min(values), Max: slices.Max(values)}
	for _, v := range values {
		a.Sum += v
	}
	return api.Pane{Key: key, Span: api.Span{Start: start, End: end}, Agg: a}
}

// came is a call, and what it came to.
func came(x api.Call, code int, panes ...api.Pane) api.Event {
	return api.Event{Call: x, Reply: api.Reply{Code: code, Panes: panes}}
}

// row are a client's events, one behind the other.
func row(l ...api.Event) []api.Event {
	list := slices.Clone(l)
	for i := range list {
		list[i].N, list[i].Begin, list[i].Point, list[i].End = i, 4*i+1, 4*i+2, 4*i+3
	}
	return list
}

// crowd are events of a client each, all at once, whose Points rise.
func crowd(l ...api.Event) []api.Event {
	list := slices.Clone(l)
	for i := range list {
		list[i].Client, list[i].Begin, list[i].Point = i, 1, i+1
		if i%2 == 0 {
			list[i].End = len(l) + i
		}
	}
	return list
}

// follow holds what Check tells of calls one behind the other: of one client, of several, and with the last ones listed first.
func follow(t *testing.T, c api.Config, want error, l ...api.Event) {
	t.Helper()
	checks(t, c, want, row(l...)...)
	list := crowd(l...)
	checks(t, c, want, list...)
	slices.Reverse(list)
	checks(t, c, want, list...)
	slices.SortStableFunc(list, func(a, b api.Event) int { return cmp.Compare(a.Client%3, b.Client%3) })
	checks(t, c, want, list...)
}

func tumbling() api.Config {
	return api.Config{Kind: api.Tumbling, Size: 10, Shards: 2, Groups: 4, Cap: 3}
}

func sliding() api.Config {
	return api.Config{Kind: api.Sliding, Size: 10, Slide: 5, Late: 2, Shards: 3, Groups: 5, Cap: 1}
}

func session() api.Config {
	return api.Config{Kind: api.Session, Gap: 4, Late: 3, Shards: 1, Groups: 2, Cap: 2}
}

func kinds() []api.Config { return []api.Config{tumbling(), sliding(), session()} }
