package oper

import (
	"slices"

	"easel/api"
	"easel/call"
	"easel/group"
	"easel/model"
	"easel/shard"
)

// letter is a message by the words once more. It knows whom it is told to.
type letter struct {
	kind  int
	of    *life
	call  api.Call
	group int
	state *group.Group
}

// Where a call of a life stands.
const (
	fresh    = iota // it is next
	unsent          // a keyed one, that isn't put
	moved           // it was told of as Moved
	waiting         // for what is told of it
	answered        // it was told of
	unheld          // one that changes the control, and doesn't have it
	marking         // an Advance
	giving          // a Rebalance
	having          // likewise, with the state
	had             // likewise, had by the new one
	draining        // a Close
)

// life is a client: where its call stands, and what that has come to.
type life struct {
	number  int
	calls   []api.Call
	replies []api.Reply
	stage   int
	event   int // the place of its call's
	reply   api.Reply
	state   *group.Group
	marks   int // how many were put
	settled int // how many of these were done
}

// plain is a machine by the chapters' words once more: lists and numbers, and of the layers above 13 nothing but the names of
// the kinds of messages.
type plain struct {
	c      api.Config
	mark   int64
	closed bool
	holder *life // nil: it is none's
	owner  []int
	frozen []bool
	mail   [][]letter
	groups [][]*group.Group // of each worker, at the groups' numbers
	lives  []*life
	events []api.Event
	out    []api.Pane
	tick   int
}

func laid(c api.Config, clients [][]api.Call) *plain {
	p := &plain{c: c, mark: api.Least, frozen: make([]bool, c.Groups), mail: make([][]letter, c.Shards)}
	for range c.Shards {
		p.groups = append(p.groups, make([]*group.Group, c.Groups))
	}
	for n := range c.Groups {
		p.owner = append(p.owner, n%c.Shards)
		p.groups[n%c.Shards][n], _ = group.New(c)
	}
	for n, l := range clients {
		p.lives = append(p.lives, &life{number: n, calls: l})
	}
	return p
}

// pick is a tick, and tells whether that did anything.
func (p *plain) pick(thread int) bool {
	if thread < 0 || thread >= p.c.Shards+len(p.lives) {
		return false
	}
	p.tick++
	if thread < p.c.Shards {
		return p.work(thread)
	}
	return p.step(p.lives[thread-p.c.Shards])
}

func (p *plain) work(n int) bool {
	if len(p.mail[n]) == 0 {
		return false
	}
	l := p.mail[n][0]
	p.mail[n] = slices.Clone(p.mail[n][1:])
	switch l.kind {
	case shard.Ask:
		p.answer(n, l)
	case shard.Mark:
		for _, g := range p.groups[n] {
			if g != nil {
				p.out = append(p.out, g.Settle(p.mark)...)
			}
		}
		l.of.settled++
	case shard.Give:
		l.of.state, p.groups[n][l.group] = p.groups[n][l.group], nil
		l.of.stage = having
	case shard.Have:
		p.groups[n][l.group] = l.state
		p.owner[l.group], p.frozen[l.group] = n, false
		l.of.stage = had
	}
	return true
}

func (p *plain) answer(n int, l letter) {
	g := p.groups[n][call.Group(p.c, l.call)]
	if g == nil {
		l.of.stage = moved
		return
	}
	l.of.stage, l.of.reply = answered, api.Reply{Code: api.Closed}
	if !p.closed {
		r, out := model.Keyed(g, l.call, p.mark)
		l.of.reply = r
		p.out = append(p.out, out...)
	}
	e := &p.events[l.of.event]
	e.Point, e.Reply = p.tick, l.of.reply
}

func (p *plain) step(a *life) bool {
	if len(a.replies) == len(a.calls) {
		return false
	}
	x := a.calls[len(a.replies)]
	if a.stage != fresh {
		return p.goes(a, x)
	}
	a.event = len(p.events)
	p.events = append(p.events, api.Event{Client: a.number, N: len(a.replies), Call: x, Begin: p.tick})
	switch {
	case !call.May(p.c, x):
		return p.refuse(a, api.Bad)
	case call.Keyed(x):
		a.stage = unsent
	default:
		a.stage = unheld
	}
	p.goes(a, x)
	return true
}

// goes takes the call on, from where it stands.
func (p *plain) goes(a *life, x api.Call) bool {
	switch a.stage {
	case unsent:
		return p.ask(a, x)
	case moved:
		a.stage = unsent
		p.ask(a, x)
		return true
	case answered:
		return p.done(a, a.reply)
	case unheld:
		return p.hold(a, x)
	case marking:
		switch {
		case a.marks < p.c.Shards:
			if !p.post(a.marks, letter{kind: shard.Mark, of: a}) {
				return false
			}
			a.marks++
			return true
		case a.settled < p.c.Shards:
			return false
		}
		return p.done(a, api.Reply{})
	case giving:
		return p.send(a, p.owner[x.Group], letter{kind: shard.Give, of: a, group: x.Group})
	case having:
		return p.send(a, x.Shard, letter{kind: shard.Have, of: a, group: x.Group, state: a.state})
	case had:
		return p.done(a, api.Reply{})
	case draining:
		if slices.ContainsFunc(p.mail, func(l []letter) bool { return len(l) > 0 }) {
			return false
		}
		return p.done(a, api.Reply{})
	}
	return false
}

// post tells whether there was room for it.
func (p *plain) post(n int, l letter) bool {
	if len(p.mail[n]) == p.c.Cap {
		return false
	}
	p.mail[n] = append(p.mail[n], l)
	return true
}

// send posts what the life waits for from then on.
func (p *plain) send(a *life, n int, l letter) bool {
	if !p.post(n, l) {
		return false
	}
	a.stage = waiting
	return true
}

func (p *plain) ask(a *life, x api.Call) bool {
	n := call.Group(p.c, x)
	switch {
	case p.closed:
		return p.refuse(a, api.Closed)
	case p.frozen[n]:
		return false
	case p.send(a, p.owner[n], letter{kind: shard.Ask, of: a, call: x}):
		return true
	case x.Op == api.TryIngest:
		return p.refuse(a, api.Full)
	}
	return false
}

func (p *plain) hold(a *life, x api.Call) bool {
	switch {
	case p.holder != nil:
		return false
	case p.closed:
		return p.refuse(a, api.Closed)
	case x.Op == api.Advance && x.Time <= p.mark:
		return p.refuse(a, api.Stale)
	}
	p.holder = a
	p.events[a.event].Point = p.tick
	switch x.Op {
	case api.Advance:
		p.mark, a.stage, a.marks, a.settled = x.Time, marking, 0, 0
	case api.Rebalance:
		p.frozen[x.Group], a.stage = true, giving
	case api.Close:
		p.closed, a.stage = true, draining
	}
	return true
}

func (p *plain) refuse(a *life, code int) bool {
	p.events[a.event].Point = p.tick
	return p.done(a, api.Reply{Code: code})
}

func (p *plain) done(a *life, r api.Reply) bool {
	if p.holder == a {
		p.holder = nil
	}
	e := &p.events[a.event]
	e.Reply, e.End = r, p.tick
	a.stage, a.replies = fresh, append(a.replies, r)
	return true
}

// tells is all that a machine of so many clients tells.
func (p *plain) tells() told {
	x := told{threads: p.c.Shards + len(p.lives), over: true, mark: p.mark, events: p.events, out: p.out}
	for n := range p.mail {
		x.room = append(x.room, len(p.mail[n]))
		for _, g := range p.groups[n] {
			if g != nil {
				x.panes += g.Len()
			}
		}
	}
	for n := range api.MaxClients {
		var l []api.Reply
		if n < len(p.lives) {
			l = p.lives[n].replies
			x.over = x.over && len(l) == len(p.lives[n].calls)
		}
		x.replies = append(x.replies, l)
	}
	return x
}
