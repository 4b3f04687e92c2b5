package owner

import (
	"errors"
	"math"
	"math/rand"
	"slices"
	"testing"

	"easel/api"
)

// edges are numbers of which most are neither a group's nor a shard's.
func edges() []int {
	return []int{
		math.MinInt, math.MinInt + 1, math.MinInt32, -1 << 16, -256, -17, -16, -9, -8, -2, -1, 0, 1, 2, 3, 7, 8, 9, 15, 16, 17, 18,
		255, 256, 257, 1 << 16, math.MaxInt32, 1 << 32, 1<<32 + 1, math.MaxInt - 1, math.MaxInt,
	}
}

// plain is a table as a plain list, which the table is held against.
type plain struct {
	shards int
	owns   []Own
}

func newPlain(groups, shards int) *plain {
	p := &plain{shards: shards}
	next := 0
	for range groups {
		p.owns = append(p.owns, Own{Shard: next})
		if next++; next == shards {
			next = 0
		}
	}
	return p
}

func (p *plain) freeze(group int) error {
	for i := range p.owns {
		switch {
		case i != group:
		case p.owns[i].Moving:
			return api.ErrBusy
		default:
			p.owns[i].Moving = true
			return nil
		}
	}
	return api.ErrNone
}

func (p *plain) publish(group, shard int) error {
	for i := range p.owns {
		switch {
		case i != group:
		case shard < 0 || shard > p.shards-1:
			return api.ErrArg
		case !p.owns[i].Moving:
			return api.ErrBusy
		default:
			p.owns[i].Shard = shard
			p.owns[i].Version++
			p.owns[i].Moving = false
			return nil
		}
	}
	return api.ErrNone
}

func (p *plain) groups(shard int) []int {
	var list []int
	for i := range p.owns {
		if p.owns[i].Shard == shard {
			list = append(list, i)
		}
	}
	slices.Sort(list)
	return list
}

// made is a table, and a plain list of the same.
func made(t *testing.T, groups, shards int) (*Table, *plain) {
	t.Helper()
	x, err := New(groups, shards)
	if x == nil || err != nil {
		t.Fatalf("New(%d, %d) = %v, %v; want a table", groups, shards, x, err)
	}
	return x, newPlain(groups, shards)
}

// has holds all that a table tells against the plain list, twice, as asking changes nothing.
func has(t *testing.T, x *Table, p *plain) {
	t.Helper()
	for range 2 {
		if x.Shards() != p.shards {
			t.Fatalf("Shards() = %d; want %d", x.Shards(), p.shards)
		}
		for group, want := range p.owns {
			if own, is := x.Of(group); own != want || !is {
				t.Fatalf("Of(%d) = %+v, %v; want %+v, true", group, own, is, want)
			}
		}
		for _, group := range []int{-1, len(p.owns)} {
			if own, is := x.Of(group); own != (Own{}) || is {
				t.Fatalf("Of(%d) = %+v, %v; want a zero one, false", group, own, is)
			}
		}
		for shard := -1; shard <= p.shards; shard++ {
			if list := x.Groups(shard); !slices.Equal(list, p.groups(shard)) {
				t.Fatalf("Groups(%d) = %v; want %v", shard, list, p.groups(shard))
			}
		}
	}
}

// freezes asks the plain list for the error, too, and holds it against the one that is wanted.
func freezes(t *testing.T, x *Table, p *plain, group int, want error) {
	t.Helper()
	if err := x.Freeze(group); err != want || p.freeze(group) != want {
		t.Fatalf("Freeze(%d) = %v; want %v", group, err, want)
	}
	has(t, x, p)
}

func publishes(t *testing.T, x *Table, p *plain, group, shard int, want error) {
	t.Helper()
	if err := x.Publish(group, shard); err != want || p.publish(group, shard) != want {
		t.Fatalf("Publish(%d, %d) = %v; want %v", group, shard, err, want)
	}
	has(t, x, p)
}

// moves is a Freeze and a Publish.
func moves(t *testing.T, x *Table, p *plain, group, shard int) {
	t.Helper()
	freezes(t, x, p, group, nil)
	publishes(t, x, p, group, shard, nil)
}

// owned asks for one group, by numbers that a test writes out itself.
func owned(t *testing.T, x *Table, group int, want Own) {
	t.Helper()
	if own, is := x.Of(group); own != want || !is {
		t.Fatalf("Of(%d) = %+v, %v; want %+v, true", group, own, is, want)
	}
}

// lists asks for one shard's groups, likewise.
func lists(t *testing.T, x *Table, shard int, want ...int) {
	t.Helper()
	if list := x.Groups(shard); !slices.Equal(list, want) {
		t.Fatalf("Groups(%d) = %v; want %v", shard, list, want)
	}
}

// all calls what visits every number of groups and shards that may be.
func all(t *testing.T, visit func(x *Table, p *plain)) {
	t.Helper()
	for groups := 1; groups <= 16; groups++ {
		for shards := 1; shards <= 8; shards++ {
			x, p := made(t, groups, shards)
			visit(x, p)
		}
	}
}

// P11.1, R3: of all edges, both in each place, a table is told just where both may be.
func TestNewOfEdges(t *testing.T) {
	for _, groups := range edges() {
		for _, shards := range edges() {
			x, err := New(groups, shards)
			may := groups >= 1 && groups <= 16 && shards >= 1 && shards <= 8
			if may && (x == nil || err != nil) {
				t.Errorf("New(%d, %d) = %v, %v; want a table", groups, shards, x, err)
			}
			if !may && (x != nil || err != api.ErrArg) {
				t.Errorf("New(%d, %d) = %v, %v; want nil, ErrArg", groups, shards, x, err)
			}
		}
	}
}

// P11.1: wrong ones by hand, each by itself, and both at once.
func TestNewOfNumbersThatMayNotBe(t *testing.T) {
	rows := [][2]int{
		{0, 1}, {-1, 1}, {17, 1}, {math.MinInt, 1}, {math.MaxInt, 1},
		{1, 0}, {1, -1}, {1, 9}, {1, 16}, {1, math.MinInt}, {1, math.MaxInt},
		{0, 0}, {0, 8}, {17, 8}, {16, 0}, {16, 9}, {17, 9}, {-1, -1}, {8, 16}, {16, 16}, {math.MinInt, math.MaxInt}, {math.MaxInt, math.MinInt},
	}
	for _, r := range rows {
		if x, err := New(r[0], r[1]); x != nil || err != api.ErrArg {
			t.Errorf("New(%d, %d) = %v, %v; want nil, ErrArg", r[0], r[1], x, err)
		}
	}
	if api.MaxGroups != 16 || api.MaxShards != 8 {
		t.Errorf("MaxGroups is %d, MaxShards %d; want 16, 8", api.MaxGroups, api.MaxShards)
	}
}

// P11.1: each number of groups and of shards that may be; all owners are by the number, modulo shards.
func TestNewOfNumbersThatMayBe(t *testing.T) {
	all(t, func(x *Table, p *plain) {
		has(t, x, p)
		count := 0
		for shard := range p.shards {
			count += len(x.Groups(shard))
		}
		if count != len(p.owns) {
			t.Fatalf("%d groups are told of %d", count, len(p.owns))
		}
		for group := range p.owns {
			owned(t, x, group, Own{Shard: group % p.shards})
		}
	})
}

// P11.1: by hand.
func TestNewByHand(t *testing.T) {
	x, _ := made(t, 1, 1)
	lists(t, x, 0, 0)
	x, _ = made(t, 16, 1)
	lists(t, x, 0, 0, 1, 2, 3, 4, 5, 6, 7, 8, 9, 10, 11, 12, 13, 14, 15)
	x, _ = made(t, 16, 8)
	lists(t, x, 0, 0, 8)
	lists(t, x, 7, 7, 15)
	x, _ = made(t, 10, 3)
	lists(t, x, 0, 0, 3, 6, 9)
	lists(t, x, 1, 1, 4, 7)
	lists(t, x, 2, 2, 5, 8)
	owned(t, x, 9, Own{})
	owned(t, x, 8, Own{Shard: 2})
	owned(t, x, 7, Own{Shard: 1})
}

// The chapter's example.
func TestExample(t *testing.T) {
	x, _ := made(t, 3, 2)
	lists(t, x, 0, 0, 2)
	lists(t, x, 1, 1)
}

// P11.1, R3: there is no such group, also when all others are moving, or have other owners.
func TestOfNoGroup(t *testing.T) {
	for groups := 1; groups <= 16; groups++ {
		x, p := made(t, groups, 8)
		none := func() {
			t.Helper()
			for _, group := range append(edges(), groups, groups+1, -groups) {
				if group >= 0 && group < groups {
					continue
				}
				if own, is := x.Of(group); own != (Own{}) || is {
					t.Fatalf("Of(%d) of %d groups = %+v, %v; want a zero one, false", group, groups, own, is)
				}
			}
		}
		none()
		for group := range groups {
			freezes(t, x, p, group, nil)
		}
		none()
		for group := range groups {
			publishes(t, x, p, group, 7, nil)
		}
		none()
		owned(t, x, groups-1, Own{Shard: 7, Version: 1})
	}
}

// P11.1: more shards than groups.
func TestGroupsOfShardsThatOwnNone(t *testing.T) {
	for groups := 1; groups <= 8; groups++ {
		x, p := made(t, groups, 8)
		for shard := range 8 {
			if shard < groups {
				lists(t, x, shard, shard)
			} else {
				lists(t, x, shard)
			}
		}
		for group := range groups {
			moves(t, x, p, group, 7)
		}
		for shard := range 7 {
			lists(t, x, shard)
		}
		if len(x.Groups(7)) != groups {
			t.Fatalf("Groups(7) = %v; want all of %d", x.Groups(7), groups)
		}
	}
}

// P11.1, P1: a shard that there isn't has none.
func TestGroupsOfNoShard(t *testing.T) {
	for groups := 1; groups <= 16; groups++ {
		for shards := 1; shards <= 8; shards++ {
			x, p := made(t, groups, shards)
			for _, shard := range append(edges(), shards, shards+1, -shards) {
				if (shard < 0 || shard >= shards) && len(x.Groups(shard)) != 0 {
					t.Fatalf("Groups(%d) of %d shards = %v; want none", shard, shards, x.Groups(shard))
				}
			}
			has(t, x, p)
		}
	}
}

// P11.1: rising, in whatever order they came.
func TestGroupsRise(t *testing.T) {
	x, p := made(t, 16, 8)
	for _, group := range []int{15, 1, 9, 8, 14, 2, 3} {
		moves(t, x, p, group, 5)
	}
	lists(t, x, 5, 1, 2, 3, 5, 8, 9, 13, 14, 15)
	for _, group := range []int{13, 1, 5} {
		moves(t, x, p, group, 0)
	}
	lists(t, x, 5, 2, 3, 8, 9, 14, 15)
	lists(t, x, 0, 0, 1, 5, 13)
	x, p = made(t, 16, 2)
	for group := 15; group >= 0; group-- {
		moves(t, x, p, group, 1)
	}
	lists(t, x, 0)
	lists(t, x, 1, 0, 1, 2, 3, 4, 5, 6, 7, 8, 9, 10, 11, 12, 13, 14, 15)
}

// P11.1, P11.2: a group that is moving is told of its owner's still, till another is published.
func TestGroupsThatAreMoving(t *testing.T) {
	x, p := made(t, 5, 2)
	for group := range 5 {
		freezes(t, x, p, group, nil)
	}
	lists(t, x, 0, 0, 2, 4)
	lists(t, x, 1, 1, 3)
	publishes(t, x, p, 2, 1, nil)
	lists(t, x, 0, 0, 4)
	lists(t, x, 1, 1, 2, 3)
}

// P11.2: each group of each table, once, and then it is busy; others aren't.
func TestFreeze(t *testing.T) {
	all(t, func(x *Table, p *plain) {
		for group := range p.owns {
			freezes(t, x, p, group, nil)
			owned(t, x, group, Own{Shard: group % p.shards, Moving: true})
			for range 2 {
				freezes(t, x, p, group, api.ErrBusy)
			}
		}
		for group := range p.owns {
			freezes(t, x, p, group, api.ErrBusy)
		}
	})
}

// P11.2: a group that there isn't, also where all others are moving.
func TestFreezeOfNoGroup(t *testing.T) {
	for groups := 1; groups <= 16; groups++ {
		x, p := made(t, groups, 3)
		for range 2 {
			for _, group := range append(edges(), groups, groups+1, -groups) {
				if group < 0 || group >= groups {
					freezes(t, x, p, group, api.ErrNone)
				}
			}
			for group := range groups {
				x.Freeze(group)
				p.freeze(group)
			}
		}
	}
}

// P11.2: of each table each group to each shard, its own one as well: the version is one more.
func TestPublish(t *testing.T) {
	for groups := 1; groups <= 16; groups++ {
		for shards := 1; shards <= 8; shards++ {
			for group := range groups {
				x, p := made(t, groups, shards)
				for shard := range shards {
					publishes(t, x, p, group, shard, api.ErrBusy)
					freezes(t, x, p, group, nil)
					publishes(t, x, p, group, shard, nil)
					owned(t, x, group, Own{Shard: shard, Version: shard + 1})
					publishes(t, x, p, group, shard, api.ErrBusy)
				}
			}
		}
	}
}

// P11.2: to the shard that owns it already, again and again.
func TestPublishToItsOwner(t *testing.T) {
	x, p := made(t, 5, 2)
	for version := range 50 {
		owned(t, x, 3, Own{Shard: 1, Version: version})
		freezes(t, x, p, 3, nil)
		owned(t, x, 3, Own{Shard: 1, Version: version, Moving: true})
		publishes(t, x, p, 3, 1, nil)
		lists(t, x, 0, 0, 2, 4)
		lists(t, x, 1, 1, 3)
	}
}

// P11.2: a group that isn't moving is busy, though another one is moving.
func TestPublishOfOneThatIsNotMoving(t *testing.T) {
	x, p := made(t, 4, 4)
	freezes(t, x, p, 2, nil)
	for _, group := range []int{0, 1, 3} {
		for shard := range 4 {
			publishes(t, x, p, group, shard, api.ErrBusy)
		}
	}
	owned(t, x, 2, Own{Shard: 2, Moving: true})
	publishes(t, x, p, 2, 0, nil)
	publishes(t, x, p, 2, 3, api.ErrBusy)
	owned(t, x, 2, Own{Version: 1})
}

// P11.2: to a shard that there isn't; the group stays moving, and may be published behind it.
func TestPublishToNoShard(t *testing.T) {
	for shards := 1; shards <= 8; shards++ {
		x, p := made(t, 16, shards)
		freezes(t, x, p, 15, nil)
		for _, shard := range append(edges(), shards, shards+1, -shards) {
			if shard < 0 || shard >= shards {
				publishes(t, x, p, 15, shard, api.ErrArg)
			}
		}
		owned(t, x, 15, Own{Shard: 15 % shards, Moving: true})
		publishes(t, x, p, 15, shards-1, nil)
		owned(t, x, 15, Own{Shard: shards - 1, Version: 1})
	}
}

// P11.2, R1: no group ahead of no shard ahead of one that isn't moving.
func TestPublishInOrder(t *testing.T) {
	rows := []struct {
		group, shard int
		want         error
	}{
		{5, 2, api.ErrNone}, {5, -1, api.ErrNone}, {-1, 2, api.ErrNone}, {-1, -1, api.ErrNone}, {5, 0, api.ErrNone}, {-1, 1, api.ErrNone},
		{math.MinInt, math.MaxInt, api.ErrNone}, {math.MaxInt, math.MinInt, api.ErrNone}, {math.MaxInt, 0, api.ErrNone}, {math.MinInt, 0, api.ErrNone},
		{0, 2, api.ErrArg}, {0, -1, api.ErrArg}, {4, 2, api.ErrArg}, {4, 5, api.ErrArg}, {4, math.MinInt, api.ErrArg}, {4, math.MaxInt, api.ErrArg},
		{0, 0, api.ErrBusy}, {0, 1, api.ErrBusy}, {4, 0, api.ErrBusy}, {4, 1, api.ErrBusy},
		{3, 2, api.ErrArg}, {3, -1, api.ErrArg}, {3, 4, api.ErrArg}, {3, math.MinInt, api.ErrArg}, {3, math.MaxInt, api.ErrArg},
	}
	x, p := made(t, 5, 2)
	freezes(t, x, p, 3, nil)
	for _, r := range rows {
		publishes(t, x, p, r.group, r.shard, r.want)
	}
	owned(t, x, 3, Own{Shard: 1, Moving: true})
	publishes(t, x, p, 3, 0, nil)
	publishes(t, x, p, 3, 0, api.ErrBusy)
}

// P11.2, R1: of all edges in both places, with each group moving and not.
func TestPublishOfEdges(t *testing.T) {
	x, p := made(t, 9, 3)
	for range 2 {
		for _, group := range edges() {
			for _, shard := range edges() {
				want := p.publish(group, shard)
				publishesAs(t, x, p, group, shard, want)
				if want == nil {
					freezes(t, x, p, group, nil)
				}
			}
		}
		for group := range 9 {
			x.Freeze(group)
			p.freeze(group)
		}
	}
}

// publishesAs is for where the plain list was asked already.
func publishesAs(t *testing.T, x *Table, p *plain, group, shard int, want error) {
	t.Helper()
	if err := x.Publish(group, shard); err != want {
		t.Fatalf("Publish(%d, %d) = %v; want %v", group, shard, err, want)
	}
	has(t, x, p)
}

// P11.2, P11.3: in turn, many times over, round the shards; each group's version is its own.
func TestInTurn(t *testing.T) {
	x, p := made(t, 3, 8)
	for round := range 500 {
		shard := (round * 3) % 8
		freezes(t, x, p, 1, nil)
		freezes(t, x, p, 1, api.ErrBusy)
		publishes(t, x, p, 1, shard, nil)
		publishes(t, x, p, 1, shard, api.ErrBusy)
		owned(t, x, 1, Own{Shard: shard, Version: round + 1})
		owned(t, x, 0, Own{Version: round / 10})
		if round%10 == 9 {
			moves(t, x, p, 0, 0)
		}
	}
	owned(t, x, 0, Own{Version: 50})
	owned(t, x, 2, Own{Shard: 2})
}

// P11.3: versions are told whole, also those that are great.
func TestManyVersions(t *testing.T) {
	x, _ := made(t, 2, 2)
	for range 70000 {
		if x.Freeze(0) != nil || x.Publish(0, 1) != nil {
			t.Fatal("a Freeze and a Publish that may be told an error")
		}
	}
	owned(t, x, 0, Own{Shard: 1, Version: 70000})
	owned(t, x, 1, Own{Shard: 1})
}

// R2: what Groups tells is new memory, both ways.
func TestGroupsIsNewMemory(t *testing.T) {
	x, p := made(t, 8, 2)
	first, second := x.Groups(0), x.Groups(0)
	for i := range first {
		first[i] = 99
	}
	first = append(first, 98)
	if !slices.Equal(second, []int{0, 2, 4, 6}) || len(first) != 5 {
		t.Fatalf("another list is %v; want 0, 2, 4, 6", second)
	}
	has(t, x, p)
	moves(t, x, p, 2, 1)
	moves(t, x, p, 1, 0)
	if !slices.Equal(second, []int{0, 2, 4, 6}) {
		t.Fatalf("a list of before is %v; want 0, 2, 4, 6", second)
	}
	lists(t, x, 0, 0, 1, 4, 6)
	grown := x.Groups(1)
	_ = append(grown[:0], 97, 96)
	has(t, x, p)
	for _, list := range [][]int{x.Groups(0), x.Groups(1)} {
		_ = append(list, 97, 96, 95)
		clear(list)
	}
	has(t, x, p)
}

// P11.1: what Of tells is the group's as it was then.
func TestOfIsACopy(t *testing.T) {
	x, p := made(t, 4, 2)
	own, _ := x.Of(1)
	moves(t, x, p, 1, 0)
	freezes(t, x, p, 1, nil)
	if own != (Own{Shard: 1}) {
		t.Fatalf("what Of told became %+v", own)
	}
	own.Shard, own.Version, own.Moving = 7, 7, false
	owned(t, x, 1, Own{Version: 1, Moving: true})
}

// Two tables, of the same numbers or others, know nothing of each other.
func TestTwoTables(t *testing.T) {
	one, ofOne := made(t, 5, 2)
	other, ofOther := made(t, 5, 2)
	third, ofThird := made(t, 16, 8)
	freezes(t, one, ofOne, 3, nil)
	has(t, other, ofOther)
	publishes(t, other, ofOther, 3, 0, api.ErrBusy)
	publishes(t, other, ofOther, 3, 7, api.ErrArg)
	freezes(t, other, ofOther, 3, nil)
	publishes(t, one, ofOne, 3, 0, nil)
	has(t, other, ofOther)
	has(t, third, ofThird)
	moves(t, third, ofThird, 3, 7)
	freezes(t, one, ofOne, 7, api.ErrNone)
	has(t, one, ofOne)
	has(t, other, ofOther)
	owned(t, other, 3, Own{Shard: 1, Moving: true})
}

// The chapter: errors are told themselves, so that they are asked for in any way.
func TestErrorsThemselves(t *testing.T) {
	_, err := New(0, 1)
	x, p := made(t, 2, 2)
	freezes(t, x, p, 0, nil)
	rows := []struct {
		got  error
		want api.Code
	}{
		{err, api.ErrArg}, {x.Freeze(2), api.ErrNone}, {x.Freeze(0), api.ErrBusy},
		{x.Publish(2, 0), api.ErrNone}, {x.Publish(0, 2), api.ErrArg}, {x.Publish(1, 0), api.ErrBusy},
	}
	for _, r := range rows {
		var code api.Code
		if r.got != r.want || !errors.Is(r.got, r.want) || !errors.As(r.got, &code) || code != r.want {
			t.Errorf("%v; want %v itself", r.got, r.want)
		}
	}
}

// oneOwner holds that each group is told by just one shard's Groups, the one that Of tells, and tells all versions.
func oneOwner(t *testing.T, x *Table, groups int) []int {
	t.Helper()
	owners, versions := make([]int, groups), make([]int, groups)
	for shard := range x.Shards() {
		list := x.Groups(shard)
		if !slices.IsSorted(list) {
			t.Fatalf("Groups(%d) = %v; want rising ones", shard, list)
		}
		for _, group := range list {
			own, is := x.Of(group)
			if !is || own.Shard != shard {
				t.Fatalf("Groups(%d) = %v; Of(%d) = %+v, %v", shard, list, group, own, is)
			}
			owners[group]++
			versions[group] = own.Version
		}
	}
	for group, count := range owners {
		if count != 1 {
			t.Fatalf("%d shards tell group %d; want one", count, group)
		}
	}
	return versions
}

// P11.3: versions rise by one at a Publish that may be, and stay elsewhere.
func rises(t *testing.T, was, is []int, group int, one bool) {
	t.Helper()
	for i := range was {
		want := was[i]
		if one && i == group {
			want++
		}
		if is[i] != want {
			t.Fatalf("group %d: version %d became %d; want %d", i, was[i], is[i], want)
		}
	}
}

// P11.2, P11.3: every order of so many calls of a small table, held against the plain list.
func TestEveryOrder(t *testing.T) {
	type step struct{ group, shard int } // a Freeze, where the shard is -9
	var steps []step
	for group := -1; group <= 2; group++ {
		for _, shard := range []int{-9, -1, 0, 1, 2} {
			if group >= 0 && group < 2 || shard <= 0 {
				steps = append(steps, step{group, shard})
			}
		}
	}
	const long = 4
	path := make([]int, long)
	for {
		x, p := made(t, 2, 2)
		for _, i := range path {
			s, got, want := steps[i], error(nil), error(nil)
			was := oneOwner(t, x, 2)
			if s.shard == -9 {
				got, want = x.Freeze(s.group), p.freeze(s.group)
			} else {
				got, want = x.Publish(s.group, s.shard), p.publish(s.group, s.shard)
			}
			if got != want {
				t.Fatalf("%v: %+v tells %v; want %v", path, s, got, want)
			}
			rises(t, was, oneOwner(t, x, 2), s.group, s.shard != -9 && want == nil)
		}
		has(t, x, p)
		at := 0
		for ; at < long && path[at] == len(steps)-1; at++ {
			path[at] = 0
		}
		if at == long {
			return
		}
		path[at]++
	}
}

// P11.1 to P11.3: whatever is frozen and published, held against the plain list.
func TestRandomCalls(t *testing.T) {
	r := rand.New(rand.NewSource(11))
	for range 300 {
		groups, shards := 1+r.Intn(16), 1+r.Intn(8)
		x, p := made(t, groups, shards)
		for range 150 {
			group, shard := r.Intn(groups+2)-1, r.Intn(shards+2)-1
			was := oneOwner(t, x, groups)
			if r.Intn(2) == 0 {
				want := p.freeze(group)
				if got := x.Freeze(group); got != want {
					t.Fatalf("Freeze(%d) = %v; want %v", group, got, want)
				}
				rises(t, was, oneOwner(t, x, groups), group, false)
			} else {
				want := p.publish(group, shard)
				if got := x.Publish(group, shard); got != want {
					t.Fatalf("Publish(%d, %d) = %v; want %v", group, shard, got, want)
				}
				rises(t, was, oneOwner(t, x, groups), group, want == nil)
			}
			has(t, x, p)
		}
	}
}

// P1: every call ends, at all edges, behind each other, and nothing but what may be is changed.
func TestEveryCallEnds(t *testing.T) {
	x, p := made(t, 16, 8)
	for _, one := range edges() {
		for _, other := range edges() {
			New(one, other)
			x.Of(one)
			x.Groups(other)
			if got, want := x.Freeze(one), p.freeze(one); got != want {
				t.Fatalf("Freeze(%d) = %v; want %v", one, got, want)
			}
			if got, want := x.Publish(one, other), p.publish(one, other); got != want {
				t.Fatalf("Publish(%d, %d) = %v; want %v", one, other, got, want)
			}
			has(t, x, p)
		}
	}
}
