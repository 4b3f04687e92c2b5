package lin

import (
	"slices"
	"testing"

	"easel/api"
)

// wrongConfigs have each one field that may not be.
func wrongConfigs() []api.Config {
	list := []api.Config{{}}
	with := func(c api.Config, set func(c *api.Config)) {
		set(&c)
		list = append(list, c)
	}
	for _, n := range []int{-1, 3, least, most} {
		with(tumbling(), func(c *api.Config) { c.Kind = n })
	}
	for _, n := range []int64{0, -1, least} {
		with(tumbling(), func(c *api.Config) { c.Size = n })
		with(sliding(), func(c *api.Config) { c.Size = n })
		with(sliding(), func(c *api.Config) { c.Slide = n })
		with(session(), func(c *api.Config) { c.Gap = n })
	}
	with(sliding(), func(c *api.Config) { c.Slide = 11 })
	with(sliding(), func(c *api.Config) { c.Size, c.Slide = 17, 1 })
	for _, fine := range kinds() {
		for _, n := range []int64{-1, least} {
			with(fine, func(c *api.Config) { c.Late = n })
		}
		for _, n := range []int{0, -1, 17, least, most} {
			with(fine, func(c *api.Config) { c.Shards = n })
			with(fine, func(c *api.Config) { c.Groups = n })
			with(fine, func(c *api.Config) { c.Cap = n })
		}
		with(fine, func(c *api.Config) { c.Shards = 9 })
	}
	return list
}

// broken are lists that aren't fine by one condition each, if the events of one client, and of another one, are.
func broken(l []api.Event) [][]api.Event {
	var list [][]api.Event
	with := func(set func(e *api.Event)) {
		for i := range l {
			turned := copied(l)
			set(&turned[i])
			list = append(list, turned)
		}
	}
	with(func(e *api.Event) { e.Client = -1 })
	with(func(e *api.Event) { e.Client = least })
	with(func(e *api.Event) { e.N = -1 })
	with(func(e *api.Event) { e.N++ })
	with(func(e *api.Event) { e.N += 1 << 32 })
	with(func(e *api.Event) { e.Begin = 0 })
	with(func(e *api.Event) { e.Begin = -1 })
	with(func(e *api.Event) { e.Begin = e.Point + 1 })
	with(func(e *api.Event) { e.Point = e.Begin - 1; e.Begin++ })
	with(func(e *api.Event) { e.Point = -1 })
	with(func(e *api.Event) { e.Point = least })
	with(func(e *api.Event) { e.Point = 0; e.End = max(e.End, 1) })
	with(func(e *api.Event) { e.End = e.Point - 1; e.Point++ })
	with(func(e *api.Event) { e.End = -1 })
	with(func(e *api.Event) { e.End = least })
	for i := range l { // one Point twice
		for k := range i {
			turned := copied(l)
			turned[i].Begin, turned[i].Point, turned[i].End = 1, l[k].Point, l[k].Point
			list = append(list, turned)
		}
	}
	for i := range l { // one that isn't ahead of the next one of its client
		for k := range i {
			if l[i].Client != l[k].Client {
				continue
			}
			for _, end := range []int{0, l[i].Begin, l[i].Begin + 1} {
				turned := copied(l)
				turned[k].End = end
				list = append(list, turned)
			}
			turned := copied(l)
			turned[i], turned[k] = turned[k], turned[i]
			list = append(list, turned)
			list = append(list, slices.Delete(copied(l), k, k+1))
		}
	}
	return list
}

// mixed are events of two clients, the model's by Tumbling 10.
func mixed() []api.Event {
	l := row(came(put("a", 3, 5), api.OK), came(query("a"), api.OK, pane("a", 0, 10, 5)), came(try("a", 4, 6), api.Full), came(shut(), api.OK))
	other := row(came(put("b", 4, 6), api.OK), came(query("b"), api.OK, pane("b", 0, 10, 6)), came(put("a", 5, 6), api.Closed))
	for i := range other {
		e := &other[i]
		e.Client, e.Begin, e.Point, e.End = 1, 20+4*i, 21+4*i, 22+4*i
	}
	// They are done one behind the other but for the Close, which is ahead of the last one alone.
	l[3].Begin, l[3].Point, l[3].End = 25, 27, 40
	return append(l, other...)
}

// P20.1: a config that may not be, by each of its fields, is told of ahead of all that is wrong with events.
func TestErrConfig(t *testing.T) {
	fits, list := mixed(), [][]api.Event{nil, {}, mixed()}
	checks(t, tumbling(), nil, fits...)
	list = append(list, turned(fits), broken(fits)[0], broken(turned(fits))[3], row(came(shut(), 0), came(shut(), 0)), make([]api.Event, 1))
	list = append(list, row(came(try("a", 3, 5), api.Full)), row(came(put("a", 3, 5), api.Bad)), row(came(shut(), api.Bad)))
	for _, c := range wrongConfigs() {
		for _, l := range list {
			checks(t, c, api.ErrConfig, l...)
		}
	}
}

// turned are events the first reply of which is turned.
func turned(l []api.Event) []api.Event {
	list := copied(l)
	list[0].Reply.Code = api.Late
	return list
}

// P20.1: each condition of layer 19, broken by itself, is told of ahead of a history that isn't the model's.
func TestErrArg(t *testing.T) {
	checks(t, tumbling(), nil, mixed()...)
	checks(t, tumbling(), api.ErrOrder, turned(mixed())...)
	for _, l := range [][]api.Event{mixed(), turned(mixed())} {
		list := broken(l)
		if len(list) < 100 {
			t.Fatalf("%d lists", len(list))
		}
		for _, l := range list {
			checks(t, tumbling(), api.ErrArg, l...)
		}
	}
	// One event alone.
	one := came(put("a", 3, 5), api.OK)
	one.Begin, one.Point, one.End = 1, 2, 3
	checks(t, tumbling(), nil, one)
	for _, set := range []func(e *api.Event){
		func(e *api.Event) { e.Client = -1 }, func(e *api.Event) { e.N = 1 }, func(e *api.Event) { e.N = -1 }, func(e *api.Event) { e.Begin = 0 },
		func(e *api.Event) { e.Begin = 3 }, func(e *api.Event) { e.Point = 0 }, func(e *api.Event) { e.Point = -2 }, func(e *api.Event) { e.End = 1 },
		func(e *api.Event) { e.End = -1 }, func(e *api.Event) { e.Point = 4 },
	} {
		for _, code := range []int{api.OK, api.Late, api.Full} {
			e := one
			e.Reply.Code = code
			set(&e)
			checks(t, tumbling(), api.ErrArg, e)
		}
	}
	checks(t, tumbling(), api.ErrArg, api.Event{})
	checks(t, tumbling(), nil, api.Event{Begin: 1})
	checks(t, tumbling(), api.ErrArg, api.Event{Begin: 1}, api.Event{Begin: 1})
	checks(t, tumbling(), nil, api.Event{Begin: 1}, api.Event{Client: most, Begin: 1})
}

// P20.1: events without a Point have to be fine, too.
func TestErrArgWithoutPoint(t *testing.T) {
	for _, e := range []api.Event{
		{Client: -1, Begin: 1}, {Client: 5, N: 1, Begin: 1}, {Client: 5, Begin: 0}, {Client: 5, Begin: -1}, {Client: 5, Begin: 1, End: 1}, {Client: 5, Begin: 1, End: -1},
		{Client: 0, N: 4, Begin: 40}, {Client: 0, N: 4, Begin: 39}, {Client: 0, N: 5, Begin: 41}, {Client: 0, N: 0, Begin: 41},
	} {
		checks(t, tumbling(), api.ErrArg, append(mixed(), e)...)
		checks(t, tumbling(), api.ErrArg, append([]api.Event{e}, mixed()...)...)
		checks(t, tumbling(), api.ErrArg, append(turned(mixed()), e)...)
	}
	checks(t, tumbling(), nil, append(mixed(), api.Event{Client: 0, N: 4, Begin: 41}, api.Event{Client: 5, Begin: 1})...)
	checks(t, tumbling(), api.ErrOrder, append(turned(mixed()), api.Event{Client: 0, N: 4, Begin: 41}, api.Event{Client: 5, Begin: 1})...)
}

// P20.1: it is ErrOrder whichever event is the one that doesn't fit, also the last one of many.
func TestErrOrder(t *testing.T) {
	var list []api.Event
	for i := range 300 {
		list = append(list, came(put("a", int64(i%10), 5), api.OK))
	}
	checks(t, tumbling(), nil, row(list...)...)
	for _, at := range []int{0, 1, 150, 298, 299} {
		l := slices.Clone(list)
		l[at].Reply.Code = api.Late
		if m, err := Check(tumbling(), row(l...)); m != nil || !is(err, api.ErrOrder) {
			t.Errorf("turned at %d: %v, %v", at, m, err)
		}
	}
}
