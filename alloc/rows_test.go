package alloc_test

import (
	"math"
	"slices"
	"testing"

	"revenant/api"
	"revenant/core"
	"revenant/queue"
	"revenant/soul"
)

// keeper holds what the promises say of many steps, by what the threads and the world tell alone.
type keeper struct {
	b       *bench
	retired map[int]int  // of a slot in which epoch it was retired, since it was born last
	waits   map[wait]int // of what a thread retired how many of its Allocs were Done since
	ever    map[int]bool // slots that were held or queued
	full    int          // how many Allocs were Full
	back    int          // how many slots came back
}

// wait is a slot that a thread retired.
type wait struct {
	th   *thread
	slot int
}

// keeperOf is a bench's.
func keeperOf(b *bench) *keeper {
	return &keeper{b: b, retired: map[int]int{}, waits: map[wait]int{}, ever: map[int]bool{}}
}

// pool is the slots that are in the pool, in order.
func (k *keeper) pool() []int {
	var all []int
	for s := slotOf(k.b.w.World.Peek(poolCell)); s != 0; s = slotOf(k.b.w.World.Peek(part(s, chainPart))) {
		all = append(all, s)
		if len(all) > k.b.conf.Slots {
			k.b.t.Fatal(k.b.kind, k.b.conf, "the pool goes in a circle", all)
		}
	}
	return all
}

// apart is that no slot is held, queued, or in the pool twice at once.
func (k *keeper) apart() {
	all := k.pool()
	for _, th := range k.b.threads {
		own := th.core.Queue().List()
		for _, e := range own {
			all = append(all, e.Slot)
			k.ever[e.Slot] = true
		}
		if who, holds := th.core.Held(); holds {
			all = append(all, who.Slot)
			k.ever[who.Slot] = true
		}
	}
	slices.Sort(all)
	if len(slices.Compact(slices.Clone(all))) != len(all) || len(all) > 0 && (all[0] < 1 || all[len(all)-1] > k.b.conf.Slots) {
		k.b.t.Fatal(k.b.kind, k.b.conf, "slots are twice", all)
	}
}

// step makes a thread's step, and holds what it came to against the promises.
func (k *keeper) step(th *thread) core.State {
	row, was := th.tell.row, th.core.Queue().List()
	state := k.b.step(th)
	now := th.core.Queue().List()
	switch {
	case row == "b":
		slot := k.b.w.born[0].Slot
		if at, is := k.retired[slot]; is && at >= th.core.Epoch() {
			k.b.t.Fatal(k.b.kind, k.b.conf, "born in", th.core.Epoch(), "is", slot, "retired in", at)
		}
		// Who is born now was seen by nobody till it is retired: dropped, it may be born anew in any epoch.
		delete(k.retired, slot)
	case row == "r2":
		e := now[len(now)-1]
		k.retired[e.Slot] = e.Retired
		k.waits[wait{th, e.Slot}] = 0
	case row == "g3" && len(now) < len(was):
		delete(k.waits, wait{th, was[0].Slot})
	}
	if state == core.Done && slices.Contains([]string{"key", "val", "state"}, row) {
		k.done(th)
	}
	if state == core.Full {
		k.isFull(th)
	}
	k.apart()
	return state
}

// done is one more of a thread's Allocs: whatever it retired is back by the last of as many as there are slots.
func (k *keeper) done(th *thread) {
	who, _ := th.core.Held()
	if _, is := k.waits[wait{th, who.Slot}]; is {
		k.back++
	}
	for w := range k.waits {
		if w.th != th {
			continue
		}
		k.waits[w]++
		if k.waits[w] > k.b.conf.Slots || k.waits[w] == k.b.conf.Slots && w.slot != who.Slot {
			k.b.t.Fatal(k.b.kind, k.b.conf, w.slot, "isn't back behind", k.waits[w])
		}
	}
	delete(k.waits, wait{th, who.Slot})
}

// isFull is that each slot is held, queued by another thread, or was taken out of both.
func (k *keeper) isFull(th *thread) {
	k.full++
	in := k.pool()
	for s := 1; s <= k.b.conf.Slots; s++ {
		if !k.ever[s] || slices.Contains(in, s) || th.core.Queue().Find(s) != -1 {
			k.b.t.Fatal(k.b.kind, k.b.conf, "Full, but", s, "can be had", in, th.own)
		}
	}
}

// words are words of keys and values, the ends among them.
var words = []uint64{0, 1, 5, 1 << 31, 1 << 40, 1 << 63, math.MaxUint64 - 1, math.MaxUint64}

// opOf is any op, those that can't be asked of a structure too.
func opOf(x *numbers) api.Op {
	return api.Op{Kind: x.below(10), Key: one(x, words), Val: one(x, words), Level: one(x, []int{0, 1, 2, 4, 17, -1, math.MaxInt, math.MinInt})}
}

// pick is what any thread does next: a step of its machine, or, if none goes on, something else; out is who was taken out.
func (k *keeper) pick(x *numbers, out *[]soul.Who) {
	b, th := k.b, one(x, k.b.threads)
	if th.machine != nil {
		k.step(th)
		return
	}
	n := x.below(20)
	switch {
	case th.holds && n < 8:
		*out = append(*out, b.take(th))
	case th.holds && n < 11:
		b.drop(th)
	case n < 11 && len(*out) > 0:
		i := x.below(len(*out))
		b.retire(th, (*out)[i])
		*out = slices.Delete(*out, i, i+1)
	case n < 13:
		b.give(th)
	default:
		if n > 13 {
			b.check(th)
		}
		b.alloc(th, opOf(x))
	}
	b.same()
	k.apart()
}

// P14.1 to P14.4: rows of Allocs, Retires and Gives of several threads over one world, whose steps are taken in turn in any order, of each structure, in each world: behind each step what the tables say, and what the promises do; and all worlds come to the same.
func TestRows(t *testing.T) {
	seen := map[string]int{}
	for i, limit := range []int{2, 3, 6, 40, 100000} {
		for slots := 1; slots <= 5; slots++ {
			for j, conf := range each(slots, limit) {
				for threads := 1; threads <= 4; threads++ {
					var first []trace
					for _, kind := range kinds {
						b := rows(t, numbers(i*1000+slots*100+j*10+threads), kind, conf, threads, seen)
						if first == nil {
							first = b.trace
						}
						if !slices.Equal(first, b.trace) {
							t.Fatal(kind, conf, threads, "comes to something else")
						}
						if f, is := b.w.World.(interface{ Faults() int }); is && f.Faults() != 0 {
							t.Fatal(kind, conf, threads, "has faults", f.Faults())
						}
					}
				}
			}
		}
	}
	for _, s := range []string{
		"new f1Busy", "new bBusy", "new a1Busy", "new Late", "new Done", "a1 Again", "failed a1", "f1 b", "f1 p1", "p1 Full", "p1 Late", "p1 p2", "p2 p3", "p3 p4",
		"p4 b", "p4 a1", "p4 p1", "failed p4", "stale p2", "stale p3", "b retire", "retire key", "key Done", "key val", "key top", "val Done", "top state", "state Done",
		"r1 r2", "r2 Done", "c Done", "c g1", "g1 Late", "g1 g2", "g2 g3", "g3 Done", "g3 g1", "failed g3", "Full", "back",
	} {
		if seen[s] == 0 {
			t.Error("no row came to", s)
		}
	}
}

// rows is a bench behind many picks.
func rows(t *testing.T, x numbers, kind string, conf api.Config, threads int, seen map[string]int) *bench {
	b := benchOf(t, kind, conf, threads)
	k := keeperOf(b)
	var out []soul.Who
	for range 700 {
		k.pick(&x, &out)
	}
	for s, n := range b.seen {
		seen[s] += n
	}
	seen["Full"] += k.full
	seen["back"] += k.back
	return b
}

// P14.1: the same rows where the words that all share begin anywhere: FRESH at, above and about Slots and at the ends of a word, POOL and EPOCH about Limit, and what is queued retired in any epoch.
func TestRowsAnywhere(t *testing.T) {
	x := numbers(14)
	for _, limit := range []int{2, 9, maxEpoch} {
		for _, conf := range append(each(3, limit), list(maxSlots, limit)) {
			for _, kind := range kinds {
				for range 60 {
					anywhere(t, &x, kind, conf)
				}
			}
		}
	}
}

// anywhere is a bench from any words on.
func anywhere(t *testing.T, x *numbers, kind string, conf api.Config) {
	b := benchOf(t, kind, conf, 2)
	slots, limit := uint64(conf.Slots), uint64(conf.Limit)
	b.set(epochCell, one(x, []uint64{0, 1, limit - 1, limit, limit + 1, 1<<63 - 1, 1 << 63, math.MaxUint64}))
	b.set(freshCell, one(x, []uint64{0, slots - 1, slots, slots + 1, 1 << 32, 1 << 63, math.MaxUint64 - 1, math.MaxUint64}))
	version := one(x, []int{0, 1, conf.Limit - 1, conf.Limit, maxEpoch})
	b.set(poolCell, link(x.below(4), version)|uint64(x.below(2))<<63)
	for s := 1; s <= 3; s++ {
		b.set(part(s, chainPart), link(x.below(4), x.below(3))|uint64(x.below(2))<<63)
		b.set(part(s, retirePart), one(x, []uint64{0, 1, limit - 1, limit, 1<<63 - 1, 1 << 63, math.MaxUint64}))
	}
	for _, th := range b.threads {
		for range x.below(3) {
			b.push(th, queue.Entry{Slot: 1 + x.below(3), Retired: one(x, []int{0, 1, conf.Limit - 1, conf.Limit, math.MaxInt, -1, math.MinInt})})
		}
	}
	for range 80 {
		th := one(x, b.threads)
		switch n := x.below(8); {
		case th.machine != nil:
			b.step(th)
		case th.holds && n < 4:
			b.take(th)
		case n == 4:
			b.give(th)
		case n == 5:
			b.retire(th, soul.Who{Slot: 1 + x.below(3)})
		default:
			if n == 6 {
				b.check(th)
			}
			b.alloc(th, opOf(x))
		}
	}
}

// act is what a thread does in a script; out is who it took out last.
type act int

const (
	allocs act = iota
	takes
	drops
	retires
	gives
)

// player goes through a thread's acts, an access a pick.
type player struct {
	k    *keeper
	th   *thread
	acts []act
	last soul.Who
}

// more is whether it has anything left to do.
func (p *player) more() bool { return p.th.machine != nil || len(p.acts) > 0 }

// pick makes the next access; what is none goes with the one behind it.
func (p *player) pick() {
	b := p.k.b
	if p.th.machine == nil {
		switch p.acts[0] {
		case allocs:
			b.check(p.th)
			if b.alloc(p.th, api.Op{Key: 5, Level: 1}) == core.Late {
				p.acts = nil
			}
			return
		case takes:
			p.last = b.take(p.th)
			p.acts = p.acts[1:]
			return
		case drops:
			b.drop(p.th)
			p.acts = p.acts[1:]
			return
		case retires:
			b.retire(p.th, p.last)
		case gives:
			b.give(p.th)
		}
	}
	switch p.k.step(p.th) {
	case core.Done:
		p.acts = p.acts[1:]
	case core.Full, core.Late:
		p.acts = nil
	}
}

// orders calls play once for each row of answers that choose, asked for a number below n, can give.
func orders(play func(choose func(n int) int)) int {
	type choice struct{ of, taken int }
	var path []choice
	for runs := 1; ; runs++ {
		at := 0
		play(func(n int) int {
			if at == len(path) {
				path = append(path, choice{of: n})
			}
			at++
			return path[at-1].taken
		})
		for len(path) > 0 && path[len(path)-1].taken+1 == path[len(path)-1].of {
			path = path[:len(path)-1]
		}
		if len(path) == 0 {
			return runs
		}
		path[len(path)-1].taken++
	}
}

// through plays the acts in one order: whoever goes on goes on, but for as many turns as are left where another one may.
func through(players []*player, turns int, choose func(n int) int) {
	var now *player
	for {
		var can []*player
		for _, p := range players {
			if p != now && p.more() {
				can = append(can, p)
			}
		}
		switch {
		case now != nil && now.more():
			if turns > 0 && len(can) > 0 {
				if n := choose(len(can) + 1); n > 0 {
					turns--
					now = can[n-1]
				}
			}
		case len(can) > 0:
			now = can[choose(len(can))]
		default:
			return
		}
		now.pick()
	}
}

// P14.1 to P14.4: a few acts of two or three threads, in all orders in which threads turn aside a few times.
func TestOrders(t *testing.T) {
	seen := map[string]int{}
	for _, s := range []struct {
		slots, limit, turns int
		ahead               []act // of the first thread, ahead of all
		acts                [][]act
	}{
		{2, 9, 4, nil, [][]act{{allocs, takes, allocs}, {allocs}}},
		{2, 9, 4, []act{allocs, takes, retires, gives}, [][]act{{allocs, takes, retires, gives}, {allocs, takes, allocs}}},
		{1, 9, 4, []act{allocs, takes, retires, gives}, [][]act{{allocs, takes, retires}, {allocs, takes, retires, gives}}},
		{3, 9, 2, []act{allocs, takes, retires, allocs, takes, retires, gives}, [][]act{{allocs, drops, gives}, {allocs, takes, retires, gives}, {allocs}}},
		{2, 3, 3, []act{allocs, takes, retires, gives}, [][]act{{allocs, takes, retires, allocs, takes, retires}, {allocs, drops, gives, allocs}}},
		{1, 2, 3, []act{allocs, drops, gives}, [][]act{{allocs, drops, gives, allocs}, {allocs, drops, gives}}},
		{1, 2, 3, []act{allocs, takes, retires}, [][]act{{allocs, takes, retires, gives, allocs}, {allocs, drops, gives}}},
	} {
		for i, conf := range each(s.slots, s.limit) {
			for _, kind := range kinds[1:] {
				turns := s.turns
				if i > 0 || kind != "ghost" {
					turns--
				}
				orders(func(choose func(n int) int) {
					b := benchOf(t, kind, conf, len(s.acts))
					k := keeperOf(b)
					through([]*player{{k: k, th: b.threads[0], acts: s.ahead}}, 0, choose)
					var players []*player
					for j, acts := range s.acts {
						players = append(players, &player{k: k, th: b.threads[j], acts: acts})
					}
					through(players, turns, choose)
					if f, is := b.w.World.(interface{ Faults() int }); is && f.Faults() != 0 {
						t.Fatal(kind, conf, s, "has faults")
					}
					for s, n := range b.seen {
						seen[s] += n
					}
				})
			}
		}
	}
	for _, s := range []string{"failed a1", "failed p4", "failed g3", "stale p2", "stale p3", "p1 Full", "p4 a1", "p4 b", "g1 Late", "p1 Late", "new Late"} {
		if seen[s] == 0 {
			t.Error("no order came to", s)
		}
	}
}
