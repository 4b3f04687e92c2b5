package client

import (
	"math"
	"slices"
	"strconv"
	"strings"
	"testing"

	"easel/api"
	"easel/box"
	"easel/call"
	"easel/ctl"
	"easel/fnv"
	"easel/owner"
	"easel/shard"
)

// What steps tell. The reply of those that go on is OK, which is the zero one.
var (
	none   = Told{}
	goes   = Told{Moved: true}
	begins = Told{Moved: true, Begun: true}
	starts = Told{Moved: true, Begun: true, Point: true}
	points = Told{Moved: true, Point: true}
	ends   = Told{Moved: true, Done: true}
)

// refused is a call that begins, has its point, and is done in one step.
func refused(code int) Told {
	return Told{Moved: true, Begun: true, Point: true, Done: true, Reply: api.Reply{Code: code}}
}

// later is a call that had begun, and has its point and is done in one step.
func later(code int) Told {
	return Told{Moved: true, Point: true, Done: true, Reply: api.Reply{Code: code}}
}

// endsWith is a call that is done, and had its point elsewhere.
func endsWith(r api.Reply) Told { return Told{Moved: true, Done: true, Reply: r} }

func sameTold(a, b Told) bool {
	return a.Moved == b.Moved && a.Begun == b.Begun && a.Point == b.Point && a.Done == b.Done && call.Same(a.Reply, b.Reply)
}

func tumbling(shards, groups, room int) api.Config {
	return api.Config{Kind: api.Tumbling, Size: 10, Shards: shards, Groups: groups, Cap: room}
}

// key is the i-th key of the n-th group of so many.
func key(groups, n, i int) string {
	for k := 0; ; k++ {
		name := "k" + strconv.Itoa(k)
		if fnv.Group(name, groups) != n {
			continue
		}
		if i == 0 {
			return name
		}
		i--
	}
}

// edges are numbers of which most are nothing's.
func edges() []int {
	return []int{
		math.MinInt, math.MinInt + 1, math.MinInt32, -1 << 16, -256, -17, -9, -8, -2, -1, 0, 1, 2, 7, 8, 9, 15, 16, 17, 255, 256,
		257, 1 << 16, math.MaxInt32, 1 << 32, 1<<32 + 1, math.MaxInt - 1, math.MaxInt,
	}
}

// site is what all have, and its shards' workers.
type site struct {
	t *testing.T
	Env
	workers []*shard.Worker
}

func built(t *testing.T, c api.Config) *site {
	t.Helper()
	table, err := owner.New(c.Groups, c.Shards)
	if err != nil {
		t.Fatal(err)
	}
	s := &site{t: t, Env: Env{Config: c, Ctl: ctl.New(), Table: table}}
	for n := range c.Shards {
		w, err := shard.New(c, table.Groups(n))
		if err != nil {
			t.Fatal(err)
		}
		s.workers = append(s.workers, w)
		s.Boxes = append(s.Boxes, w.Box())
	}
	return s
}

// standing is all that is seen of a site, but for what its messages are.
type standing struct {
	mark         int64
	closed, held bool
	holder       int
	owns         [api.MaxGroups]owner.Own
	mail         [api.MaxShards]int
	shut         [api.MaxShards]bool
}

func (s *site) stands() standing {
	x := standing{mark: s.Ctl.Mark(), closed: s.Ctl.Closed()}
	x.holder, x.held = s.Ctl.Holder()
	for n := range x.owns {
		x.owns[n], _ = s.Table.Of(n)
	}
	for n, b := range s.Boxes {
		x.mail[n], x.shut[n] = b.Len(), b.Closed()
	}
	return x
}

// holder holds whose the control is.
func (s *site) holder(who int, held bool) {
	s.t.Helper()
	if n, is := s.Ctl.Holder(); n != who || is != held {
		s.t.Fatalf("Holder() = %d, %t; want %d, %t", n, is, who, held)
	}
}

// mail holds how many messages each mailbox has.
func (s *site) mail(want ...int) {
	s.t.Helper()
	for n, b := range s.Boxes {
		if b.Len() != want[n] {
			s.t.Fatalf("mailbox %d has %d messages; want %v", n, b.Len(), want)
		}
	}
}

// takes takes a shard's first message, and holds what it is.
func (s *site) takes(n int, want shard.Msg) shard.Msg {
	s.t.Helper()
	m, is := s.Boxes[n].Take()
	if !is || m != want {
		s.t.Fatalf("shard %d's first message is %+v, %t; want %+v", n, m, is, want)
	}
	return m
}

// fill puts messages that tell nothing, till the mailbox is full.
func (s *site) fill(n int) {
	s.t.Helper()
	for s.Boxes[n].Put(shard.Msg{}) == nil {
	}
}

// free takes out the first message, and holds that it was one that tells nothing.
func (s *site) free(n int) {
	s.t.Helper()
	s.takes(n, shard.Msg{})
}

func (s *site) freeze(n int) {
	s.t.Helper()
	if err := s.Table.Freeze(n); err != nil {
		s.t.Fatal(err)
	}
}

func (s *site) publish(n, to int) {
	s.t.Helper()
	if err := s.Table.Publish(n, to); err != nil {
		s.t.Fatal(err)
	}
}

// work has a worker do its first message.
func (s *site) work(n int) shard.Did {
	s.t.Helper()
	d, is := s.workers[n].Step(s.Ctl.Mark(), s.Ctl.Closed())
	if !is {
		s.t.Fatalf("mailbox %d is empty", n)
	}
	return d
}

// twin is a client, its calls, and what it told so far.
type twin struct {
	*Client
	s       *site
	calls   []api.Call
	replies []api.Reply
}

func (s *site) client(number int, calls ...api.Call) *twin {
	s.t.Helper()
	x := &twin{Client: New(number, calls), s: s, calls: calls}
	x.tells()
	return x
}

// tells holds what Next, Over and Replies tell.
func (x *twin) tells() {
	x.s.t.Helper()
	n := len(x.replies)
	want := append(slices.Clone(x.calls), api.Call{})[n]
	if y, is := x.Next(); y != want || is != (n < len(x.calls)) || x.Over() != (n == len(x.calls)) {
		x.s.t.Fatalf("behind %d of %d calls Next() = %+v, %t, Over() = %t; want %+v", n, len(x.calls), y, is, x.Over(), want)
	}
	if list := x.Replies(); !slices.EqualFunc(list, x.replies, call.Same) {
		x.s.t.Fatalf("Replies() = %+v; want %+v", list, x.replies)
	}
}

// steps holds what steps tell, and that one that did nothing changed nothing.
func (x *twin) steps(want ...Told) {
	x.s.t.Helper()
	for i, w := range want {
		was := x.s.stands()
		told := x.Step(x.s.Env)
		if !sameTold(told, w) {
			x.s.t.Fatalf("step %d told %+v; want %+v", i, told, w)
		}
		if w.Done {
			x.replies = append(x.replies, w.Reply)
		}
		x.tells()
		if is := x.s.stands(); !w.Moved && is != was {
			x.s.t.Fatalf("step %d told that it did nothing, and all stands as %+v; it stood as %+v", i, is, was)
		}
	}
}

// did holds whether it awaits that; by itself this changes nothing but what next steps come to.
func (x *twin) did(d shard.Did, want bool) {
	x.s.t.Helper()
	if is := x.Did(d); is != want {
		x.s.t.Fatalf("Did(%+v) = %t; want %t", d, is, want)
	}
	x.tells()
}

// works has a worker do its first message, and holds that this is awaited.
func (x *twin) works(n int) shard.Did {
	x.s.t.Helper()
	d := x.s.work(n)
	x.did(d, true)
	return d
}

// keyedOps are the Ops of keyed calls; ofKey is such a call of a key, that may be.
func keyedOps() []int { return []int{api.Ingest, api.TryIngest, api.QueryPane, api.QueryKey} }

func ofKey(op int, key string) api.Call {
	return api.Call{Op: op, Key: key, Time: 3, End: 10, Value: 7}
}

// changes are calls that hold the control.
func changes() []api.Call {
	return []api.Call{{Op: api.Advance, Time: 5}, {Op: api.Rebalance, Group: 1}, {Op: api.Close}}
}

// asked is the message of a keyed call.
func asked(number int, x api.Call) shard.Msg {
	return shard.Msg{Kind: shard.Ask, From: number, Call: x}
}

// P17.1: a client of no calls is over at once, and does nothing.
func TestNoCalls(t *testing.T) {
	for _, list := range [][]api.Call{nil, {}} {
		for _, number := range edges() {
			s := built(t, tumbling(2, 3, 2))
			x := s.client(number, list...)
			for range 3 {
				x.steps(none)
				for kind := range 6 {
					x.did(shard.Did{Msg: shard.Msg{Kind: kind, From: number}}, false)
				}
			}
			if told := x.Step(Env{}); !sameTold(told, none) || !x.Over() || len(x.Replies()) > 0 {
				t.Fatalf("a step with nothing at all told %+v", told)
			}
		}
	}
}

// P17.1: Next, Over and Replies ahead of each step, and behind it, of calls that are done in one step, in two, and in more.
func TestNextOverReplies(t *testing.T) {
	s := built(t, tumbling(1, 1, 4))
	calls := []api.Call{
		{Op: api.Ingest, Key: "a", Time: 3, Value: 5}, {Op: 8}, {Op: api.QueryKey, Key: "a"}, {Op: api.Advance, Time: 10},
		{Op: api.Advance, Time: 10}, {Op: api.QueryKey, Key: "a"}, {Op: api.Rebalance}, {Op: api.Close}, {Op: api.Close},
	}
	codes := []int{api.OK, api.Bad, api.OK, api.OK, api.Stale, api.OK, api.OK, api.OK, api.Closed}
	x := New(7, calls)
	done := func(n int) {
		t.Helper()
		y, is := x.Next()
		if n < len(calls) && (!is || y != calls[n] || x.Over()) || n == len(calls) && (is || y != (api.Call{}) || !x.Over()) {
			t.Fatalf("behind %d calls Next() = %+v, %t, Over() = %t", n, y, is, x.Over())
		}
		var got []int
		for _, r := range x.Replies() {
			got = append(got, r.Code)
		}
		if !slices.Equal(got, codes[:n]) {
			t.Fatalf("behind %d calls the replies are %v; want %v", n, got, codes[:n])
		}
	}
	// runs does a step, has the worker do what the step put, if it did, and holds that so many calls are done.
	runs := func(want int, works bool) {
		t.Helper()
		x.Step(s.Env)
		done(want)
		if works {
			x.Did(s.work(0))
			done(want)
		}
	}
	done(0)
	runs(0, true)
	runs(1, false)
	runs(2, false)
	runs(2, true)
	runs(3, false)
	pane := api.Pane{Key: "a", Span: api.Span{Start: 0, End: 10}, Agg: api.Agg{Count: 1, Sum: 5, Min: 5, Max: 5}}
	if r := x.Replies()[2]; !slices.Equal(r.Panes, []api.Pane{pane}) {
		t.Fatalf("the third reply is %+v; want %+v", r, pane)
	}
	runs(3, false)
	runs(3, true)
	runs(4, false)
	runs(5, false)
	runs(5, true)
	runs(6, false)
	runs(6, false)
	runs(6, true)
	runs(6, true)
	runs(7, false)
	runs(7, false)
	runs(8, false)
	runs(9, false)
	runs(9, false)
}

// wrong are calls that may not be, by a config of 2 shards and 3 groups.
func wrong() []api.Call {
	var list []api.Call
	for _, op := range append(edges(), 1<<8+1, 1<<8+7, 1<<32+3, -7) {
		if op < api.Ingest || op > api.Close {
			list = append(list, api.Call{Op: op}, api.Call{Op: op, Key: "a", End: 1})
		}
	}
	for _, op := range keyedOps() {
		list = append(list, ofKey(op, ""), ofKey(op, strings.Repeat("a", 21)), ofKey(op, strings.Repeat("a", 256+1)))
	}
	for _, end := range []int64{3, 2, -1, api.Least} {
		list = append(list, api.Call{Op: api.QueryPane, Key: "a", Time: 3, End: end})
	}
	for _, n := range edges() {
		if n < 0 || n > 2 {
			list = append(list, api.Call{Op: api.Rebalance, Group: n})
		}
		if n < 0 || n > 1 {
			list = append(list, api.Call{Op: api.Rebalance, Shard: n})
		}
	}
	return list
}

// hindrances are what may stand in a call's way: none of them, each, and all.
func hindrances() []func(*site) {
	held := func(s *site) { s.Ctl.Hold(99) }
	closed := func(s *site) { s.Ctl.Shut() }
	moving := func(s *site) {
		for n := range s.Config.Groups {
			s.freeze(n)
		}
	}
	full := func(s *site) {
		for n := range s.Boxes {
			s.fill(n)
		}
	}
	shut := func(s *site) {
		for _, b := range s.Boxes {
			b.Close()
		}
	}
	all := func(s *site) {
		held(s)
		closed(s)
		moving(s)
		full(s)
		shut(s)
	}
	return []func(*site){func(*site) {}, held, closed, moving, full, shut, all}
}

// P17.1: a call that may not be begins, has its point, and is done in one step, whatever else stands in its way; nothing is
// changed by it.
func TestBad(t *testing.T) {
	for _, y := range wrong() {
		for _, hinder := range hindrances() {
			s := built(t, tumbling(2, 3, 2))
			hinder(s)
			was := s.stands()
			x := s.client(4, y, y)
			x.steps(refused(api.Bad), refused(api.Bad), none)
			if is := s.stands(); is != was {
				t.Fatalf("behind %+v all stands as %+v; it stood as %+v", y, is, was)
			}
		}
	}
}

// P17.1: by a config that may not be no call may, whatever its Op.
func TestBadByConfig(t *testing.T) {
	calls := changes()
	for _, op := range keyedOps() {
		calls = append(calls, ofKey(op, "a"))
	}
	for _, y := range calls {
		for _, hinder := range hindrances() {
			s := built(t, tumbling(2, 3, 2))
			hinder(s)
			was := s.stands()
			for _, c := range []api.Config{{}, {Size: 10, Shards: 2, Groups: 3}, {Shards: 2, Groups: 3, Cap: 2}, {Kind: 3, Size: 10, Shards: 2, Groups: 3, Cap: 2}} {
				s.Config = c
				s.client(4, y).steps(refused(api.Bad), none)
			}
			if is := s.stands(); is != was {
				t.Fatalf("behind %+v all stands as %+v; it stood as %+v", y, is, was)
			}
		}
	}
}

// P17.1: what may just be isn't Bad.
func TestNotBad(t *testing.T) {
	last := strings.Repeat("z", 20)
	for _, y := range []api.Call{
		ofKey(api.Ingest, last), ofKey(api.TryIngest, last), ofKey(api.QueryKey, last), {Op: api.QueryKey, Key: "\x00"},
		{Op: api.QueryPane, Key: last, Time: 3, End: 4}, {Op: api.QueryPane, Key: last, Time: api.Least, End: math.MaxInt64},
		{Op: api.Ingest, Key: "a", Time: math.MaxInt64, Group: -1, Shard: 99}, {Op: api.QueryKey, Key: "a", Time: 3, End: 2},
	} {
		built(t, tumbling(2, 3, 2)).client(4, y).steps(begins)
	}
	for _, y := range []api.Call{
		{Op: api.Rebalance, Group: 2, Shard: 1}, {Op: api.Advance, Time: api.Least + 1}, {Op: api.Advance, Time: math.MaxInt64, Group: -1},
		{Op: api.Close, Group: -1, Shard: -1, Time: 5},
	} {
		built(t, tumbling(2, 3, 2)).client(4, y).steps(starts)
	}
}

// P17.1: the chapter's example, and its order of steps: a TryIngest whose mailbox is full is Full.
func TestExample(t *testing.T) {
	s := built(t, tumbling(1, 1, 1))
	s.client(0, api.Call{Op: api.Ingest, Key: "b"}).steps(begins)
	s.client(1, api.Call{Op: api.TryIngest, Key: "a"}).steps(refused(api.Full), none)
	s.mail(1)
}

// P17.2: calls that are changed behind New.
func TestCallsChangedBehindNew(t *testing.T) {
	s := built(t, tumbling(1, 1, 4))
	list := []api.Call{{Op: api.QueryKey, Key: "a"}, {Op: api.Advance, Time: 5}, {Op: 9}}
	was := slices.Clone(list)
	x := s.client(4, list...)
	x.calls = was
	clear(list)
	x.steps(begins)
	s.mail(1)
	x.works(0)
	x.steps(ends, starts, goes)
	x.works(0)
	x.steps(ends, refused(api.Bad), none)
	grown := append(make([]api.Call, 0, 4), was[0])
	y := s.client(5, grown...)
	_ = append(grown, was...)
	y.steps(begins)
	y.works(0)
	y.steps(ends, none)
}

// P17.2: New, Step and Did change nothing of a list that is handed in, and Env stays as it is.
func TestWhatIsHandedInStays(t *testing.T) {
	s := built(t, tumbling(2, 3, 4))
	list := []api.Call{{Op: api.QueryKey, Key: key(3, 1, 0)}, {Op: api.Rebalance, Group: 1}, {Op: api.Close}, {Op: 0}}
	was, boxes := slices.Clone(list), slices.Clone(s.Boxes)
	x := New(4, list)
	for range 20 {
		x.Step(s.Env)
		for n := range s.workers {
			d, is := s.workers[n].Step(s.Ctl.Mark(), s.Ctl.Closed())
			if !is {
				continue
			}
			d.Reply.Panes, d.Out = []api.Pane{{Key: "p"}}, []api.Pane{{Key: "o"}}
			if !x.Did(d) || d.Reply.Panes[0].Key != "p" || d.Out[0].Key != "o" {
				t.Fatalf("%+v isn't awaited, or isn't as it was", d)
			}
		}
	}
	if !x.Over() || !slices.Equal(list, was) || !slices.Equal(s.Boxes, boxes) {
		t.Fatalf("over: %t; %+v became %+v", x.Over(), was, list)
	}
}

// P17.2: replies are new memory: of Step, of Replies, and of a Did that is changed behind it.
func TestRepliesAreNewMemory(t *testing.T) {
	s := built(t, tumbling(1, 1, 4))
	y := api.Call{Op: api.QueryKey, Key: "a"}
	x := s.client(4, y, y)
	panes := func() []api.Pane {
		return []api.Pane{{Key: "a", Agg: api.Agg{Count: 1}}, {Key: "a", Agg: api.Agg{Count: 2}}}
	}
	want := api.Reply{Code: api.Late, Panes: panes()}
	for range 2 {
		x.steps(begins)
		d := shard.Did{Msg: s.takes(0, asked(4, y)), Reply: api.Reply{Code: api.Late, Panes: panes()}}
		x.did(d, true)
		clear(d.Reply.Panes)
		told := x.Step(s.Env)
		if !sameTold(told, endsWith(want)) {
			t.Fatalf("told %+v; want %+v", told, want)
		}
		clear(told.Reply.Panes)
		_ = append(told.Reply.Panes[:0], api.Pane{Key: "z"})
		x.replies = append(x.replies, want)
		x.tells()
		list := x.Replies()
		for i := range list {
			list[i].Code = api.Full
			clear(list[i].Panes)
		}
		x.tells()
	}
	one, two := x.Replies(), x.Replies()
	clear(one[0].Panes)
	one[1] = api.Reply{}
	if !call.Same(two[0], want) || !call.Same(two[1], want) {
		t.Fatalf("Replies() = %+v behind a change of another answer", two)
	}
}

// P17.3, P1: each step ends, and none panics, whatever of Env isn't there.
func TestWrongEnv(t *testing.T) {
	calls := append(changes(), wrong()...)
	for _, op := range keyedOps() {
		for n := range 3 {
			calls = append(calls, ofKey(op, key(3, n, 0)))
		}
	}
	for cut := range 1 << 5 {
		for _, y := range calls {
			s := built(t, tumbling(2, 3, 1))
			e := s.Env
			if cut&1 > 0 {
				e.Ctl = nil
			}
			if cut&2 > 0 {
				e.Table = nil
			}
			switch cut >> 2 {
			case 1:
				e.Boxes = e.Boxes[:1]
			case 2:
				e.Boxes = nil
			case 3:
				e.Boxes = []*box.Box[shard.Msg]{nil, s.Boxes[1]}
			case 4:
				e.Boxes = []*box.Box[shard.Msg]{s.Boxes[0], nil}
			case 5:
				e.Boxes = make([]*box.Box[shard.Msg], 2)
			case 6:
				e.Boxes = append(slices.Clone(e.Boxes), nil, nil, s.Boxes[0])
			case 7:
				e.Table, _ = owner.New(1, 1)
			}
			x := New(4, []api.Call{y})
			for step := range 12 {
				if told := x.Step(e); told.Begun != (step == 0) {
					t.Fatalf("%+v: step %d told %+v", y, step, told)
				}
				for n := range s.workers {
					if d, is := s.workers[n].Step(s.Ctl.Mark(), s.Ctl.Closed()); is {
						x.Did(d)
					}
				}
			}
			if r := x.Replies(); !call.May(s.Config, y) && (len(r) != 1 || r[0].Code != api.Bad) {
				t.Fatalf("%+v came to %+v", y, r)
			}
		}
	}
}

// P17.3, P1: an Env that is another one, or less, at each step.
func TestEnvThatChanges(t *testing.T) {
	calls := changes()
	for _, op := range keyedOps() {
		calls = append(calls, ofKey(op, key(3, 2, 0)))
	}
	for _, y := range calls {
		for steps := range 6 {
			s := built(t, tumbling(2, 3, 1))
			small := built(t, tumbling(1, 1, 1)).Env
			half := s.Env
			half.Boxes, half.Table = half.Boxes[:1], nil
			x := New(4, []api.Call{y})
			for n := range steps {
				x.Step(s.Env)
				if d, is := s.workers[n%2].Step(s.Ctl.Mark(), s.Ctl.Closed()); is {
					x.Did(d)
				}
			}
			for _, e := range []Env{{}, small, half, {Ctl: s.Ctl}, {Table: s.Table}, {Boxes: s.Boxes}, {Config: s.Config}, s.Env} {
				x.Step(e)
				x.Step(e)
			}
		}
	}
}

// P17.1: where mailboxes aren't there nothing is told that isn't so: what waits for them goes on waiting, and who has its
// mailbox isn't hindered.
func TestMailboxesThatAreNotThere(t *testing.T) {
	s := built(t, tumbling(2, 2, 4))
	whole := s.Boxes
	s.Boxes = whole[:1]
	for _, op := range keyedOps() {
		s.client(4, ofKey(op, key(2, 1, 0))).steps(begins, none, none)
		s.client(4, ofKey(op, key(2, 0, 0))).steps(begins)
	}
	s.mail(4)
	for range 4 {
		s.work(0)
	}
	x := s.client(5, api.Call{Op: api.Advance, Time: 5})
	x.steps(starts, goes)
	x.works(0)
	x.steps(none, none)
	s.Boxes = whole
	x.steps(goes, none)
	x.works(1)
	x.steps(ends)
	s.Boxes = whole[1:]
	s.client(6, api.Call{Op: api.Close}).steps(starts, ends)
	if whole[0].Closed() || !whole[1].Closed() {
		t.Fatal("a Close closed what isn't there, or not what is")
	}
}
