package client

import (
	"iter"
	"slices"

	"easel/api"
	"easel/assign"
	"easel/call"
	"easel/group"
	"easel/model"
	"easel/owner"
	"easel/shard"
)

// plain is what all have, by the chapters' words once more: lists, and nothing else of layers 10, 11, 14 to 16.
type plain struct {
	c      api.Config
	mark   int64
	closed bool
	holder *actor // nil: it is none's
	owns   []owner.Own
	mail   [][]shard.Msg
	shut   []bool
	groups [][]*group.Group // of each shard, at the groups' numbers
}

func laid(c api.Config) *plain {
	p := &plain{c: c, mark: api.Least, mail: make([][]shard.Msg, c.Shards), shut: make([]bool, c.Shards)}
	for range c.Shards {
		p.groups = append(p.groups, make([]*group.Group, c.Groups))
	}
	for n := range c.Groups {
		p.owns = append(p.owns, owner.Own{Shard: n % c.Shards})
		p.groups[n%c.Shards][n], _ = group.New(c)
	}
	return p
}

// full tells whether a mailbox takes no message now.
func (p *plain) full(n int) bool { return p.shut[n] || len(p.mail[n]) == p.c.Cap }

func (p *plain) put(n int, m shard.Msg) { p.mail[n] = append(p.mail[n], m) }

func (p *plain) empty() bool {
	return !slices.ContainsFunc(p.mail, func(l []shard.Msg) bool { return len(l) > 0 })
}

// work does a shard's first message.
func (p *plain) work(n int) (shard.Did, bool) {
	if len(p.mail[n]) == 0 {
		return shard.Did{}, false
	}
	m := p.mail[n][0]
	p.mail[n] = slices.Clone(p.mail[n][1:])
	d := shard.Did{Msg: m}
	switch m.Kind {
	case shard.Ask:
		g := p.groups[n][call.Group(p.c, m.Call)]
		switch {
		case g == nil:
			d.Moved = true
		case p.closed:
			d.Reply.Code = api.Closed
		default:
			d.Reply, d.Out = model.Keyed(g, m.Call, p.mark)
		}
	case shard.Mark:
		for _, g := range p.groups[n] {
			if g != nil {
				d.Out = append(d.Out, g.Settle(p.mark)...)
			}
		}
	case shard.Give:
		d.State, p.groups[n][m.Group] = p.groups[n][m.Group], nil
	case shard.Have:
		p.groups[n][m.Group] = m.State
	}
	return d, true
}

// actor is a client by the chapter's words: its life goes through its calls from the first to the last, and stops at the end
// of each step.
type actor struct {
	p       *plain
	number  int
	calls   []api.Call
	replies []api.Reply
	first   bool // in the call's first step
	noted   bool // in a step that took note of a Moved
	yield   func(Told) bool
	waits   *shard.Msg // what it awaits, but Marks
	got     shard.Did  // what that came to
	marks   int        // how many Marks are to be done yet
}

// over is how a life is broken off.
type over struct{}

// steps tells the steps of an actor's life one by one, without an end.
func (a *actor) steps() (func() (Told, bool), func()) {
	return iter.Pull(func(yield func(Told) bool) {
		defer func() {
			if r := recover(); r != nil {
				if _, is := r.(over); !is {
					panic(r)
				}
			}
		}()
		a.yield = yield
		for _, x := range a.calls {
			a.first = true
			t := a.does(x)
			a.replies = append(a.replies, t.Reply)
			a.ends(t)
		}
		for {
			a.ends(Told{})
		}
	})
}

// ends ends a step.
func (a *actor) ends(t Told) {
	t.Begun = a.first
	t.Moved = t.Moved || a.first || a.noted
	a.first, a.noted = false, false
	if !a.yield(t) {
		panic(over{})
	}
}

func (a *actor) idles() { a.ends(Told{}) }

func (a *actor) goes() { a.ends(Told{Moved: true}) }

// here is the step of a call's point, with which it is done.
func here(code int) Told {
	return Told{Moved: true, Point: true, Done: true, Reply: api.Reply{Code: code}}
}

// does goes through a call, up to its last step.
func (a *actor) does(x api.Call) Told {
	switch {
	case !assign.May(a.p.c) || !call.May(a.p.c, x):
		return here(api.Bad)
	case x.Op != api.Advance && x.Op != api.Rebalance && x.Op != api.Close:
		return a.keyed(x)
	}
	return a.change(x)
}

func (a *actor) keyed(x api.Call) Told {
	p := a.p
	n := call.Group(p.c, x)
	for {
		own := p.owns[n]
		switch {
		case p.closed:
			return here(api.Closed)
		case own.Moving:
		case p.shut[own.Shard]:
			return here(api.Closed)
		case !p.full(own.Shard):
			m := shard.Msg{Kind: shard.Ask, From: a.number, Call: x}
			p.put(own.Shard, m)
			a.awaits(m)
			if !a.got.Moved {
				return Told{Moved: true, Done: true, Reply: a.got.Reply}
			}
			a.noted = true
			continue
		case x.Op == api.TryIngest:
			return here(api.Full)
		}
		a.idles()
	}
}

// awaits ends the step that put m, and those till it is done.
func (a *actor) awaits(m shard.Msg) {
	a.waits = &m
	a.goes()
	for a.waits != nil {
		a.idles()
	}
}

func (a *actor) change(x api.Call) Told {
	p := a.p
	for p.holder != nil {
		a.idles()
	}
	switch {
	case p.closed:
		return here(api.Closed)
	case x.Op == api.Advance && x.Time <= p.mark:
		return here(api.Stale)
	}
	p.holder = a
	switch x.Op {
	case api.Advance:
		p.mark = x.Time
		a.ends(Told{Moved: true, Point: true})
		a.settles()
	case api.Rebalance:
		p.owns[x.Group].Moving = true
		a.ends(Told{Moved: true, Point: true})
		a.moves(x)
	case api.Close:
		p.closed = true
		for n := range p.shut {
			p.shut[n] = true
		}
		a.ends(Told{Moved: true, Point: true})
		for !p.empty() {
			a.idles()
		}
	}
	p.holder = nil
	return Told{Moved: true, Done: true}
}

// settles puts Marks, and awaits them.
func (a *actor) settles() {
	for n := range a.p.mail {
		for a.p.full(n) {
			a.idles()
		}
		a.p.put(n, shard.Msg{Kind: shard.Mark})
		a.marks++
		a.goes()
	}
	for a.marks > 0 {
		a.idles()
	}
}

// moves has a group given, and had.
func (a *actor) moves(x api.Call) {
	sends := func(to int, m shard.Msg) {
		for a.p.full(to) {
			a.idles()
		}
		a.p.put(to, m)
		a.awaits(m)
	}
	sends(a.p.owns[x.Group].Shard, shard.Msg{Kind: shard.Give, Group: x.Group})
	sends(x.Shard, shard.Msg{Kind: shard.Have, Group: x.Group, State: a.got.State})
}

// did tells what was done.
func (a *actor) did(d shard.Did) bool {
	if d.Msg.Kind == shard.Mark {
		if a.marks == 0 {
			return false
		}
		a.marks--
		return true
	}
	if a.waits == nil || a.waits.Kind != d.Msg.Kind || a.waits.From != d.Msg.From || a.waits.Call != d.Msg.Call || a.waits.Group != d.Msg.Group {
		return false
	}
	a.waits, a.got = nil, d
	if d.Msg.Kind == shard.Have {
		own := &a.p.owns[d.Msg.Group]
		*own = owner.Own{Shard: a.calls[len(a.replies)].Shard, Version: own.Version + 1}
	}
	return true
}
