package lin

import (
	"slices"
	"testing"

	"easel/api"
)

// P20.1: a TryIngest that may be, and whose reply is Full, isn't done at all: what is behind it comes to what it came to without
// it, and to nothing else.
func TestFull(t *testing.T) {
	full := came(try("a", 4, 7), api.Full)
	in, two := came(put("a", 3, 5), api.OK), pane("a", 0, 10, 5, 7)
	one := came(query("a"), api.OK, pane("a", 0, 10, 5))
	c := tumbling()
	follow(t, c, nil, full)
	follow(t, c, nil, full, full, full)
	follow(t, c, nil, in, full)
	follow(t, c, nil, full, in)
	follow(t, c, nil, in, full, one)
	follow(t, c, nil, full, in, one)
	follow(t, c, nil, in, one, full, one)
	follow(t, c, api.ErrOrder, in, full, came(query("a"), api.OK, two))
	follow(t, c, api.ErrOrder, full, in, came(query("a"), api.OK, two))
	follow(t, c, nil, in, came(try("a", 4, 7), api.OK), came(query("a"), api.OK, two))
	follow(t, c, api.ErrOrder, in, came(try("a", 4, 7), api.OK), one)
	follow(t, c, nil, full, came(query("a"), api.OK))
	follow(t, c, api.ErrOrder, full, came(query("a"), api.OK, pane("a", 0, 10, 7)))
	follow(t, c, nil, full, came(window("a", 0, 10), api.OK))
	// Where it is the one that isn't done, others are.
	follow(t, c, nil, full, came(try("a", 4, 7), api.OK), full, came(query("a"), api.OK, pane("a", 0, 10, 7)))
	follow(t, c, api.ErrOrder, in, full, came(put("a", 3, 5), api.Full))
	follow(t, c, api.ErrOrder, full, came(shut(), api.Closed))
	// Nothing of it goes out.
	follow(t, c, nil, full, came(advance(10), api.OK), came(advance(20), api.OK))
	m, err := Check(c, row(full, in, full, came(advance(10), api.OK), full))
	if err != nil || !slices.Equal(m.Out(), []api.Pane{pane("a", 0, 10, 5)}) {
		t.Errorf("%v, %v", m, err)
	}
	// No session grows together by it, and none longer.
	left, right := came(put("a", 3, 5), api.OK), came(put("a", 8, 6), api.OK)
	apart := came(query("a"), api.OK, pane("a", 3, 7, 5), pane("a", 8, 12, 6))
	grown := came(query("a"), api.OK, pane("a", 3, 12, 5, 6, 7))
	follow(t, session(), nil, left, right, came(try("a", 5, 7), api.Full), apart)
	follow(t, session(), api.ErrOrder, left, right, came(try("a", 5, 7), api.Full), grown)
	follow(t, session(), nil, left, right, came(try("a", 5, 7), api.OK), grown)
	follow(t, session(), api.ErrOrder, left, right, came(try("a", 5, 7), api.OK), apart)
}

// P20.1: so it is with one that, if it were done, came to whatever.
func TestFullOfEachCode(t *testing.T) {
	up, in := came(advance(10), api.OK), came(put("a", 13, 5), api.OK)
	one := came(query("a"), api.OK, pane("a", 10, 20, 5))
	for _, c := range []struct {
		x    api.Call
		code int
	}{
		{try("a", 13, 5), api.OK}, {try("b", 10, 5), api.OK}, {try("a", 9, 5), api.Late}, {try("b", -100, 5), api.Late},
		{try("a", most, 5), api.BadTime}, {try("a", least, 5), api.BadTime}, {try("12345678901234567890", 3, 0), api.Late}, {try("\x00", 13, 0), api.OK},
		{api.Call{Op: api.TryIngest, Key: "a", Time: 13, End: -1, Group: -1, Shard: 99}, api.OK},
	} {
		follow(t, tumbling(), nil, up, in, came(c.x, c.code))
		follow(t, tumbling(), nil, up, in, came(c.x, api.Full))
		follow(t, tumbling(), nil, up, in, came(c.x, api.Full), one)
		follow(t, tumbling(), nil, up, in, one, came(c.x, api.Full), came(shut(), api.OK), came(c.x, api.Full), came(c.x, api.Closed))
	}
}

// P20.1: a TryIngest that may not be comes to Bad, not to Full; and so does any call of another Op, or one that there isn't, not
// to Full, whether it may be or not.
func TestFullOfOthers(t *testing.T) {
	var list []api.Call
	for _, key := range []string{"", "123456789012345678901", "1234567890123456789012345678901234567890"} {
		list = append(list, try(key, 3, 5), put(key, 3, 5), query(key), window(key, 0, 10))
	}
	list = append(list, put("a", 3, 5), put("a", most, 5), advance(5), advance(least), window("a", 0, 10), window("a", 0, 0), query("a"), move(0, 1), move(4, 1), shut())
	for _, op := range []int{0, 8, -1, -2, 9, 2 + 1<<8, 2 + 1<<32, most, least} {
		list = append(list, api.Call{Op: op}, api.Call{Op: op, Key: "a", Time: 3, Value: 5})
	}
	in, one := came(put("a", 3, 5), api.OK), came(query("a"), api.OK, pane("a", 0, 10, 5))
	for _, x := range list {
		for n := range 4 {
			follow(t, tumbling(), api.ErrOrder, append(state(n), came(x, api.Full))...)
		}
		follow(t, tumbling(), api.ErrOrder, came(x, api.Full), in, one)
		follow(t, tumbling(), api.ErrOrder, in, came(x, api.Full), one)
	}
}

// P20.1: it is the code that is Full; what stands beside it plays no part.
func TestFullWithPanes(t *testing.T) {
	in, one := came(put("a", 3, 5), api.OK), came(query("a"), api.OK, pane("a", 0, 10, 5))
	for _, panes := range [][]api.Pane{{}, {{}}, {pane("a", 0, 10, 5)}, {pane("a", 0, 10, 5, 7)}, {pane("b", 3, 3, -1), {}, pane("a", 9, 0, 1)}} {
		full := came(try("a", 4, 7), api.Full, panes...)
		follow(t, tumbling(), nil, full)
		follow(t, tumbling(), nil, in, full, one)
		follow(t, tumbling(), nil, full, in, one, came(shut(), api.OK), full)
		full.Call.Key = ""
		follow(t, tumbling(), api.ErrOrder, full)
		full.Call = put("a", 4, 7)
		follow(t, tumbling(), api.ErrOrder, in, full)
		follow(t, tumbling(), api.ErrOrder, in, full, one)
		// Of another code it does.
		for _, code := range []int{api.Late, api.Closed, api.BadTime, api.Stale, api.Bad, 7, -1, 2 + 1<<8, 2 + 1<<32, -3} {
			follow(t, tumbling(), api.ErrOrder, in, came(try("a", 4, 7), code, panes...), one)
		}
	}
	follow(t, tumbling(), nil, came(try("a", 4, 7), api.OK, []api.Pane{}...))
	follow(t, tumbling(), api.ErrOrder, came(try("a", 4, 7), api.OK, api.Pane{}))
	follow(t, tumbling(), api.ErrOrder, came(try("a", 4, 7), api.OK, pane("a", 0, 10, 7)))
}

// P20.1: Full behind a Close, and Closed.
func TestFullBehindClose(t *testing.T) {
	x, closed := try("a", 3, 5), came(shut(), api.OK)
	for _, c := range kinds() {
		follow(t, c, nil, closed, came(x, api.Full))
		follow(t, c, nil, closed, came(x, api.Closed))
		follow(t, c, nil, closed, came(x, api.Full), came(x, api.Closed), came(x, api.Full), came(shut(), api.Closed))
		follow(t, c, api.ErrOrder, closed, came(x, api.OK))
		follow(t, c, api.ErrOrder, closed, came(x, api.Full), came(x, api.OK))
		follow(t, c, api.ErrOrder, closed, came(x, api.Full), came(shut(), api.OK))
		follow(t, c, api.ErrOrder, closed, came(put("a", 3, 5), api.Full))
		follow(t, c, api.ErrOrder, closed, came(try("", 3, 5), api.Full))
		follow(t, c, nil, closed, came(try("", 3, 5), api.Bad))
		follow(t, c, nil, came(x, api.Full), closed)
	}
}
