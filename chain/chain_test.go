package chain_test

import (
	"math"
	"slices"
	"testing"

	"revenant/api"
	"revenant/chain"
	"revenant/core"
	"revenant/ghost"
	"revenant/ideal"
	"revenant/queue"
	"revenant/seek"
	"revenant/shade"
	"revenant/soul"
	"revenant/world"
)

// The example: an Insert of 5 into an empty list of one thread: a search (3 steps), an Alloc (4), a search (3), a Link (2): true.
func TestExample(t *testing.T) {
	for _, kind := range kinds {
		for _, key := range []uint64{5, 0, math.MaxUint64} {
			w := &watched{World: made(kind)}
			world.Start(w)
			w.forget()
			id := 0
			if kind != "plain" {
				id = 1
			}
			one := soul.Who{Slot: 1, Id: id}
			c := core.New(list(4))
			o := chain.New(c, insert(key))
			for i, want := range []access{
				epoch, loads(ref(rootCell)), epoch,
				adds(ref(freshCell), 1), stores(by(one, birthPart), val(1)), stores(by(one, retirePart), val(0)), stores(by(one, keyPart), val(key)),
				epoch, loads(ref(rootCell)), epoch,
				stores(by(one, nextPart), val(link(0, 1))), swaps(ref(rootCell), val(0), world.Val{Word: link(1, 1), Id: id}),
			} {
				w.idle(t)
				if o.Answer() != (api.Answer{}) {
					t.Fatal(kind, i, o.Answer())
				}
				if state := o.Step(w); (state == core.Done) != (i == 11) || state > core.Done {
					t.Fatal(kind, i, name(state))
				}
				w.asked(t, want)
			}
			if o.Answer() != yes || c.Epoch() != 1 || c.Rolls() != 0 || c.Queue().Len() != 0 {
				t.Error(kind, o.Answer(), c)
			}
			if _, holds := c.Held(); holds {
				t.Error(kind, "a slot is still held")
			}
		}
	}
}

// P16.1, P16.2: an empty list has nothing, and nothing can be taken out of it.
func TestEmpty(t *testing.T) {
	for _, kind := range kinds {
		for _, key := range []uint64{0, 1, math.MaxUint64} {
			b := benchOf(t, kind, list(1), 1)
			th := b.threads[0]
			for _, o := range []api.Op{has(key), remove(key)} {
				if n := b.ask(th, o, api.Answer{}); n != 3 {
					t.Error(kind, o, n)
				}
			}
			if n := b.ask(th, insert(key), yes); n != 12 {
				t.Error(kind, n)
			}
			b.has(key)
			// A search: 7, and then a mark, a cut, and two steps of a Retire.
			if n := b.ask(th, remove(key), yes); n != 11 {
				t.Error(kind, n)
			}
			b.has()
			b.ask(th, has(key), api.Answer{})
			b.clean()
		}
	}
}

// P16.2: keys come and go, the lowest and the highest one too; of what is there already, and of what isn't, nothing changes.
func TestKeys(t *testing.T) {
	for _, kind := range kinds {
		b := benchOf(t, kind, list(6), 1)
		th := b.threads[0]
		for _, s := range []struct {
			op   api.Op
			want api.Answer
			keys []uint64
		}{
			{insert(7), yes, []uint64{7}},
			{insert(7), api.Answer{}, []uint64{7}},
			{has(7), yes, []uint64{7}},
			{has(6), api.Answer{}, []uint64{7}},
			{has(8), api.Answer{}, []uint64{7}},
			{insert(math.MaxUint64), yes, []uint64{7, math.MaxUint64}},
			{insert(0), yes, []uint64{0, 7, math.MaxUint64}},
			{insert(0), api.Answer{}, []uint64{0, 7, math.MaxUint64}},
			{insert(math.MaxUint64), api.Answer{}, []uint64{0, 7, math.MaxUint64}},
			{has(0), yes, []uint64{0, 7, math.MaxUint64}},
			{has(math.MaxUint64), yes, []uint64{0, 7, math.MaxUint64}},
			{insert(8), yes, []uint64{0, 7, 8, math.MaxUint64}},
			{insert(6), yes, []uint64{0, 6, 7, 8, math.MaxUint64}},
			{remove(5), api.Answer{}, []uint64{0, 6, 7, 8, math.MaxUint64}},
			{remove(7), yes, []uint64{0, 6, 8, math.MaxUint64}},
			{remove(7), api.Answer{}, []uint64{0, 6, 8, math.MaxUint64}},
			{has(7), api.Answer{}, []uint64{0, 6, 8, math.MaxUint64}},
			{remove(0), yes, []uint64{6, 8, math.MaxUint64}},
			{remove(math.MaxUint64), yes, []uint64{6, 8}},
			{has(math.MaxUint64), api.Answer{}, []uint64{6, 8}},
			{insert(7), yes, []uint64{6, 7, 8}},
			{remove(6), yes, []uint64{7, 8}},
			{remove(8), yes, []uint64{7}},
			{remove(7), yes, nil},
		} {
			b.ask(th, s.op, s.want)
			b.has(s.keys...)
		}
		b.clean()
	}
}

// P16.1: a Link's steps, at the root and behind a slot, ahead of nobody and of somebody.
func TestLink(t *testing.T) {
	for _, kind := range kinds {
		for key, want := range map[uint64][]uint64{0: {0, 2, 4}, 1: {1, 2, 4}, 3: {2, 3, 4}, 5: {2, 4, 5}} {
			b, th := at(t, kind, list(9), 6)
			it, links := b.lay(4, item{slot: 8, key: 2}, item{slot: 3, key: 4})
			held := soul.Who{Slot: 5, Id: b.w.World.Born(5)}
			b.put(by(held, keyPart), key)
			b.hold(th, held)
			b.find(th, 0, key)
			l := b.link(th)
			i, here := 0, ref(rootCell)
			if key > 2 {
				i, here = 1, by(it[0].who(), nextPart)
			}
			if key > 4 {
				i, here = 2, by(it[1].who(), nextPart)
			}
			b.w.forget()
			if state := l.Step(b.w); state != core.Busy {
				t.Fatal(kind, key, name(state))
			}
			b.w.asked(t, stores(by(held, nextPart), world.Val{Word: link(slotOf(links[i].Word), 6), Id: links[i].Id}))
			if who, holds := th.core.Held(); !holds || who != held {
				t.Fatal(kind, key, "holds", who, holds)
			}
			if state := l.Step(b.w); state != core.Done {
				t.Fatal(kind, key, name(state))
			}
			b.w.asked(t, swaps(here, links[i], world.Val{Word: link(5, 6), Id: held.Id}))
			if who, holds := th.core.Held(); holds || th.core.Queue().Len() != 0 {
				t.Fatal(kind, key, "holds", who, holds)
			}
			b.has(want...)
			b.clean()
		}
	}
}

// P16.1: a Link's swap isn't done: it ends Again, the slot is still held, and the list is as it was; another Link puts it in.
func TestLinkAgain(t *testing.T) {
	for _, kind := range kinds {
		for _, word := range []uint64{link(3, 5), link(8, 4), marked(3, 4), link(0, 4), 0} {
			b, th := at(t, kind, list(9), 6)
			it, links := b.lay(4, item{slot: 8, key: 2}, item{slot: 3, key: 4})
			held := soul.Who{Slot: 5, Id: b.w.World.Born(5)}
			b.put(by(held, keyPart), 3)
			b.hold(th, held)
			b.find(th, 0, 3)
			b.link(th)
			b.steps(th, 1)
			b.w.World.Store(by(it[0].who(), nextPart), world.Val{Word: word, Id: it[1].id})
			if state := b.step(th); state != core.Again {
				t.Fatal(kind, word, name(state))
			}
			if got := b.w.World.Peek(part(8, nextPart)); got != word {
				t.Error(kind, word, "is", got)
			}
			b.w.World.Store(by(it[0].who(), nextPart), links[1])
			b.find(th, 0, 3)
			b.link(th)
			b.ends(th, 2, core.Done)
			b.has(2, 3, 4)
		}
	}
}

// P16.1: a Link of a thread that holds nothing makes no access, and cuts nothing off.
func TestLinkOfNothing(t *testing.T) {
	for _, kind := range kinds {
		b, th := at(t, kind, list(9), 6)
		b.lay(4, item{slot: 8, key: 2}, item{slot: 3, key: 4})
		b.find(th, 0, 3)
		l := chain.NewLink(th.core, th.lane)
		b.w.forget()
		for range 3 {
			if state := l.Step(b.w); state != core.Again {
				t.Error(kind, name(state))
			}
		}
		b.w.idle(t)
		b.has(2, 4)
	}
}

// P16.1: an Unlink's steps, at the root and behind a slot, of the last slot and of others, with to whom its link leads.
func TestUnlink(t *testing.T) {
	for _, kind := range kinds {
		for i := range 3 {
			b, th := at(t, kind, list(9), 6)
			it, links := b.lay(4, item{slot: 8, key: 2}, item{slot: 3, key: 4}, item{slot: 6, key: 9})
			b.find(th, 0, it[i].key)
			to := lead(links[i+1])
			u := b.unlink(th, 0, it[i].key, to)
			here := ref(rootCell)
			if i > 0 {
				here = by(it[i-1].who(), nextPart)
			}
			b.w.forget()
			b.w.World.Store(ref(epochCell), val(8))
			for n, want := range []access{
				swaps(by(it[i].who(), nextPart), links[i+1], world.Val{Word: marked(to.Slot, 6), Id: to.Id}),
				swaps(here, links[i], world.Val{Word: link(to.Slot, 6), Id: to.Id}),
				epoch,
				stores(by(it[i].who(), retirePart), val(8)),
			} {
				state := u.Step(b.w)
				if (state == core.Done) != (n == 3) || state > core.Done {
					t.Fatal(kind, i, n, name(state))
				}
				b.w.asked(t, want)
				var keys []uint64
				for _, j := range it {
					if j != it[i] {
						keys = append(keys, j.key)
					}
				}
				b.has(keys...)
				if cut := !slices.Contains(b.linked(), it[i].slot); cut != (n > 0) {
					t.Fatal(kind, i, n, "is linked:", !cut)
				}
				b.w.forget()
			}
			want := []queue.Entry{{Slot: it[i].slot, Retired: 8, Id: it[i].id}}
			if got := th.core.Queue().List(); !slices.Equal(got, want) {
				t.Error(kind, i, got)
			}
			if th.core.Epoch() != 6 || th.core.Rolls() != 0 {
				t.Error(kind, i, th.core.Epoch(), th.core.Rolls())
			}
			b.clean()
		}
	}
}

// P16.1: an Unlink's mark isn't done: it ends Again, and nothing changes.
func TestUnlinkAgain(t *testing.T) {
	for _, kind := range kinds {
		for _, word := range []uint64{link(6, 5), link(0, 4), marked(6, 4), link(2, 4), 0} {
			b, th := at(t, kind, list(9), 6)
			it, links := b.lay(4, item{slot: 8, key: 2}, item{slot: 3, key: 4}, item{slot: 6, key: 9})
			b.find(th, 0, 4)
			held := soul.Who{Slot: 5, Id: b.w.World.Born(5)}
			for _, to := range []soul.Who{lead(links[2]), {}, held} {
				if _, holds := th.core.Held(); to == held && !holds {
					b.hold(th, held)
				}
				b.unlink(th, 0, 4, to)
				b.w.World.Store(by(it[1].who(), nextPart), world.Val{Word: word, Id: 6})
				if state := b.step(th); state != core.Again {
					t.Fatal(kind, word, name(state))
				}
				if got := b.w.World.Peek(part(3, nextPart)); got != word || b.w.World.Peek(part(8, nextPart)) != links[1].Word {
					t.Error(kind, word, "is", got)
				}
			}
		}
	}
}

// P16.1: an Unlink's second swap isn't done: a search from the root for the key cuts off what was marked, wherever it stands by now, unless another one did; then it is retired.
func TestUnlinkSearches(t *testing.T) {
	for _, kind := range kinds {
		for _, ahead := range []string{"root", "slot", "other version", "cut", "epoch"} {
			for _, root := range []int{0, 2} {
				b, th := at(t, kind, list(9), 6)
				it, links := b.layAt(root, 4, item{slot: 8, key: 2}, item{slot: 3, key: 4}, item{slot: 6, key: 9})
				b.find(th, root, 4)
				b.unlink(th, root, 4, lead(links[2]))
				b.steps(th, 1)
				begin, next := ref(api.Place{Kind: 4, Part: root}), by(it[0].who(), nextPart)
				searched := 14
				switch ahead {
				case "root":
					// The slot ahead of it went, so that the root leads to it.
					b.w.World.Store(begin, world.Val{Word: link(3, 6), Id: it[1].id})
					b.w.World.Store(next, world.Val{Word: marked(3, 6), Id: it[1].id})
					searched = 10
				case "slot":
					// Another one came between.
					mid := soul.Who{Slot: 1, Id: b.w.World.Born(1)}
					b.put(by(mid, keyPart), 3)
					b.w.World.Store(by(mid, nextPart), world.Val{Word: link(3, 6), Id: it[1].id})
					b.w.World.Store(next, world.Val{Word: link(1, 6), Id: mid.Id})
					searched += 4
				case "other version":
					b.w.World.Store(next, world.Val{Word: link(3, 6), Id: it[1].id})
				case "cut":
					b.w.World.Store(next, world.Val{Word: link(6, 7), Id: it[2].id})
					searched = 11
				case "epoch":
					b.w.World.Store(next, world.Val{Word: link(3, 6), Id: it[1].id})
					b.put(ref(epochCell), 7)
				}
				b.steps(th, 1)
				if th.tell.row != "c" {
					t.Fatal(kind, ahead, "goes on at", th.tell.row)
				}
				b.steps(th, searched)
				if th.tell.row != "r1" {
					t.Fatal(kind, ahead, "goes on at", th.tell.row)
				}
				b.ends(th, 2, core.Done)
				if root == 0 && slices.Contains(b.linked(), 3) {
					t.Error(kind, ahead, "is still linked", b.linked())
				}
				want := []queue.Entry{{Slot: 3, Retired: 6, Id: it[1].id}}
				if ahead == "epoch" {
					want[0].Retired = 7
				}
				if got := th.core.Queue().List(); !slices.Equal(got, want) {
					t.Error(kind, ahead, got)
				}
				b.clean()
			}
		}
	}
}

// P16.1: an Unlink whose mark leads to whom the thread holds puts that in its place: nothing is held any more, from the mark on.
func TestUnlinkToHeld(t *testing.T) {
	for _, kind := range kinds {
		for _, fails := range []bool{false, true} {
			b, th := at(t, kind, hash(9), 6)
			it, links := b.layAt(2, 4, item{slot: 8, key: 2}, item{slot: 3, key: 4}, item{slot: 6, key: 9})
			held := soul.Who{Slot: 5, Id: b.w.World.Born(5)}
			b.put(by(held, keyPart), 4)
			b.w.World.Store(by(held, nextPart), links[2])
			b.hold(th, held)
			b.find(th, 2, 4)
			b.unlink(th, 2, 4, held)
			b.steps(th, 1)
			if who, holds := th.core.Held(); holds {
				t.Fatal(kind, "holds", who)
			}
			b.hold(th, soul.Who{Slot: 7, Id: 70})
			if fails {
				b.w.World.Store(by(it[0].who(), nextPart), world.Val{Word: link(3, 6), Id: it[1].id})
			}
			if state, _ := b.run(th); state != core.Done {
				t.Fatal(kind, name(state))
			}
			// What was held since is still held.
			if who, holds := th.core.Held(); !holds || who.Slot != 7 {
				t.Error(kind, "holds", who, holds)
			}
			if got := b.w.World.Load(by(it[0].who(), nextPart)); slotOf(got.Word) != 5 || kind != "plain" && got.Id != held.Id {
				t.Error(kind, fails, got)
			}
			b.clean()
		}
	}
}

// P16.1: an Unlink whose mark leads to somebody else leaves what is held: to nobody, to another slot, and to who the slot was before.
func TestUnlinkToOthers(t *testing.T) {
	for _, kind := range kinds {
		for _, to := range []soul.Who{{}, {Id: 9}, {Slot: 6, Id: 1}, {Slot: 5, Id: 80}, {Slot: maxSlots, Id: 5}, {Slot: -1, Id: 5}, {Slot: maxSlots + 1, Id: 5}, {Slot: math.MaxInt, Id: -1}} {
			for _, holds := range []bool{false, true} {
				b, th := at(t, kind, list(9), 6)
				b.lay(4, item{slot: 8, key: 2}, item{slot: 3, key: 4}, item{slot: 6, key: 9})
				if holds {
					b.hold(th, soul.Who{Slot: 5, Id: 70})
				}
				b.find(th, 0, 4)
				b.unlink(th, 0, 4, to)
				b.ends(th, 4, core.Done)
				if who, has := th.core.Held(); has != holds || holds && who != (soul.Who{Slot: 5, Id: 70}) {
					t.Error(kind, to, who, has)
				}
			}
		}
	}
}

// P16.1: a Link and an Unlink go by where the lane ended when they were made, and change nothing of it; a lane that ended at nobody has none of a slot.
func TestLaneStays(t *testing.T) {
	for _, kind := range kinds {
		b, th := at(t, kind, list(9), 6)
		it, links := b.lay(4, item{slot: 8, key: 2}, item{slot: 3, key: 4})
		b.find(th, 0, 4)
		same := func() {
			t.Helper()
			if l := th.lane; !l.Found() || l.Who() != it[1].who() || l.At() != by(it[0].who(), nextPart) || l.Into() != links[1] || l.Out() != links[2] {
				t.Error(kind, l.Found(), l.Who(), l.At(), l.Into(), l.Out())
			}
		}
		b.unlink(th, 0, 4, soul.Who{})
		same()
		b.run(th)
		same()
		b.hold(th, soul.Who{Slot: 5})
		b.link(th)
		b.run(th)
		same()
		// Behind the end of a list there is nobody: what would be marked is a cell that isn't any slot's.
		b, th = at(t, kind, list(9), 6)
		b.lay(4, item{slot: 8, key: 2})
		b.find(th, 0, 4)
		b.unlink(th, 0, 4, soul.Who{})
		b.ends(th, 4, core.Done)
		b.has(2)
	}
}

// P16.1: an Insert of a key that came while a slot was taken for it drops the slot, which the next Insert takes at once; with none held nothing is dropped.
func TestInsertFound(t *testing.T) {
	for _, kind := range kinds {
		b := benchOf(t, kind, list(4), 2)
		a, z := b.threads[0], b.threads[1]
		b.begin(a, insert(5))
		b.steps(a, 7)
		b.ask(z, insert(5), yes)
		if state, n := b.run(a); state != core.Done || n != 7 || a.answer != (api.Answer{}) {
			t.Fatal(kind, name(state), n, a.answer)
		}
		want := queue.Entry{Slot: 1}
		if kind != "plain" {
			want.Id = 1
		}
		if got := a.core.Queue().List(); !slices.Equal(got, []queue.Entry{want}) {
			t.Fatal(kind, got)
		}
		b.ask(a, insert(5), api.Answer{})
		if got := a.core.Queue().List(); !slices.Equal(got, []queue.Entry{want}) {
			t.Fatal(kind, got)
		}
		// The slot 1 is held again by a birth, with no access of the fresh ones.
		b.ask(a, insert(6), yes)
		if got := b.linked(); !slices.Equal(got, []int{2, 1}) || a.core.Queue().Len() != 0 {
			t.Error(kind, got)
		}
		b.has(5, 6)
		b.clean()
	}
}

// P16.1: what a thread holds ahead of an op is left alone by a Has and a Delete, linked by an Insert of what isn't there, and dropped by one of what is.
func TestHeldAhead(t *testing.T) {
	for _, kind := range kinds {
		for _, s := range []struct {
			op    api.Op
			want  api.Answer
			holds bool
			own   int
		}{
			{has(4), yes, true, 0}, {has(5), api.Answer{}, true, 0},
			{remove(4), yes, true, 1}, {remove(5), api.Answer{}, true, 0},
			{insert(4), api.Answer{}, false, 1}, {insert(5), yes, false, 0},
		} {
			b, th := at(t, kind, list(9), 6)
			b.lay(4, item{slot: 8, key: 2}, item{slot: 3, key: 4})
			b.hold(th, soul.Who{Slot: 7, Id: b.w.World.Born(7)})
			b.ask(th, s.op, s.want)
			if _, holds := th.core.Held(); holds != s.holds || th.core.Queue().Len() != s.own {
				t.Error(kind, s.op, holds, th.core.Queue().List())
			}
		}
	}
}

// P16.1: no slot is left: ErrFull, and nothing changes; what comes to no slot goes on to be answered, and behind a Delete there is one.
func TestFull(t *testing.T) {
	for _, kind := range kinds {
		b := benchOf(t, kind, list(2), 2)
		a, z := b.threads[0], b.threads[1]
		b.ask(a, insert(5), yes)
		b.ask(a, insert(7), yes)
		for range 3 {
			for _, th := range b.threads {
				// A search, f1, p1.
				b.begin(th, insert(6))
				b.till(th, "f1")
				b.ends(th, 2, core.Done)
				if th.answer != refused(api.ErrFull) {
					t.Fatal(kind, th.answer)
				}
				b.has(5, 7)
				b.ask(th, insert(7), api.Answer{})
				b.ask(th, has(5), yes)
				b.ask(th, remove(6), api.Answer{})
			}
		}
		b.ask(z, remove(7), yes)
		// The slot is z's own by now, and not a's.
		b.ask(a, insert(6), refused(api.ErrFull))
		b.ask(z, insert(6), yes)
		b.has(5, 6)
		b.clean()
	}
}

// P16.1: the epoch is at the limit: a slot that was retired in it isn't born any more: ErrEpoch, told by the step that ended the search.
func TestLate(t *testing.T) {
	for _, kind := range kinds {
		for _, limit := range []int{2, 3} {
			b := benchOf(t, kind, limited(1, limit), 1)
			th := b.threads[0]
			for range limit {
				b.ask(th, insert(5), yes)
				b.ask(th, remove(5), yes)
			}
			for range 3 {
				if n := b.ask(th, insert(5), refused(api.ErrEpoch)); n != 3 {
					t.Error(kind, n)
				}
				b.has()
				b.ask(th, has(5), api.Answer{})
				b.ask(th, remove(5), api.Answer{})
			}
			if got := b.w.World.Peek(epochCell); got != uint64(limit) || th.core.Queue().Len() != 1 {
				t.Error(kind, got, th.core.Queue().List())
			}
			b.clean()
		}
	}
}

// P16.1: an Alloc is Late: the pool's version, or the epoch behind a slot that came out of the pool, is at the limit: ErrEpoch.
func TestLateAlloc(t *testing.T) {
	for _, kind := range kinds {
		b := benchOf(t, kind, limited(2, 9), 1)
		th := b.threads[0]
		b.put(ref(freshCell), 2)
		b.put(ref(poolCell), link(2, 9))
		if n := b.ask(th, insert(5), refused(api.ErrEpoch)); n != 5 {
			t.Error(kind, n)
		}
		b.put(ref(poolCell), link(2, 8))
		b.put(ref(part(2, retirePart)), 9)
		b.put(ref(epochCell), 9)
		if n := b.ask(th, insert(5), refused(api.ErrEpoch)); n != 8 {
			t.Error(kind, n)
		}
		if got := th.core.Queue().List(); !slices.Equal(got, []queue.Entry{{Slot: 2, Retired: 9}}) {
			t.Error(kind, got)
		}
		b.has()
		b.ask(th, has(5), api.Answer{})
	}
}

// P16.1: a slot that was retired in this epoch: the epoch goes on, a new search, a birth, a new search, and a Link.
func TestEpochGoesOn(t *testing.T) {
	for _, kind := range kinds {
		b := benchOf(t, kind, list(1), 1)
		th := b.threads[0]
		for i := range 4 {
			// A search (3), a1 (1), a search (3), a birth (3), a search (3), a Link (2); the first time a slot is fresh.
			if n := b.ask(th, insert(5), yes); n != []int{12, 15}[min(1, i)] {
				t.Error(kind, i, n)
			}
			b.ask(th, remove(5), yes)
			if got := b.w.World.Peek(epochCell); got != uint64(i+1) || th.core.Epoch() != i+1 {
				t.Error(kind, i, got)
			}
		}
		b.clean()
	}
}

// P16.1: nothing at all: nil of a nil thread or lane, and every method of nil.
func TestNil(t *testing.T) {
	c := core.New(list(4))
	l := seek.New(c, ref(rootCell), 0, 5, false)
	if chain.NewLink(nil, l) != nil || chain.NewLink(c, nil) != nil || chain.NewLink(nil, nil) != nil {
		t.Error("NewLink")
	}
	who := soul.Who{Slot: 1}
	if chain.NewUnlink(nil, l, 0, 5, who) != nil || chain.NewUnlink(c, nil, 0, 5, who) != nil || chain.NewUnlink(nil, nil, 0, 5, who) != nil {
		t.Error("NewUnlink")
	}
	if chain.New(nil, has(5)) != nil || chain.New(nil, api.Op{}) != nil {
		t.Error("New")
	}
	var link *chain.Link
	var unlink *chain.Unlink
	var op *chain.Op
	for _, kind := range kinds {
		w := &watched{World: made(kind)}
		for _, m := range []machine{link, unlink, op} {
			if state := m.Step(w); state != core.Done {
				t.Error(kind, name(state))
			}
			if state := m.Step(nil); state != core.Done {
				t.Error(kind, name(state))
			}
		}
		if op.Answer() != (api.Answer{}) {
			t.Error(kind, op.Answer())
		}
		w.idle(t)
	}
	if c.Epoch() != 0 || c.Queue().Len() != 0 {
		t.Error(c)
	}
}

// P16.1: what can't be asked of a list, a Give, and structures that are none.
func TestCannot(t *testing.T) {
	for kind := -1; kind <= 10; kind++ {
		for _, key := range []uint64{0, 5, math.MaxUint64} {
			for _, value := range []uint64{0, 1, math.MaxUint64} {
				for _, level := range []int{0, 1, -1, math.MaxInt, math.MinInt} {
					o := api.Op{Kind: kind, Key: key, Val: value, Level: level}
					can := kind >= api.Insert && kind <= api.Has && value == 0 && level == 0
					for _, conf := range []api.Config{list(4), list(1), list(maxSlots), limited(3, 2)} {
						if (chain.New(core.New(conf), o) != nil) != can {
							t.Error(conf, o, "can be asked:", !can)
						}
					}
					for _, conf := range []api.Config{hash(4), skip(4)} {
						if chain.New(core.New(conf), o) != nil {
							t.Error(conf, o, "is asked")
						}
					}
				}
			}
		}
	}
	if chain.New(core.New(api.Config{}), has(5)) != nil || chain.New(core.New(list(0)), has(5)) != nil {
		t.Error("what can't be is asked")
	}
}

// P16.1: New makes no access, and changes nothing of its thread; nor does an Answer.
func TestNewAlone(t *testing.T) {
	b, th := at(t, "ghost", list(4), 6)
	b.hold(th, soul.Who{Slot: 2, Id: 1})
	b.push(th, queue.Entry{Slot: 3, Retired: 6, Id: 4})
	for _, o := range []api.Op{has(5), insert(5), remove(5)} {
		p := b.begin(th, o)
		for range 3 {
			if p.Answer() != (api.Answer{}) {
				t.Error(p.Answer())
			}
		}
		b.w.idle(t)
		b.same(th)
	}
}

// broken is a world that panics.
type broken struct{ world.World }

// P1: steps in worlds that are nil, or panic, make nothing and end.
func TestBroken(t *testing.T) {
	worlds := []world.World{nil, (*world.Plain)(nil), (*ghost.Ghost)(nil), (*ideal.Ideal)(nil), (*shade.Shade)(nil), (*broken)(nil), broken{}}
	for _, w := range worlds {
		for row := range 12 {
			for _, o := range []api.Op{has(5), insert(5), remove(5)} {
				b, th := at(t, "plain", list(4), 6)
				b.lay(6, item{slot: 4, key: 5})
				p := chain.New(th.core, o)
				for range row {
					p.Step(b.w)
				}
				for range 30 {
					p.Step(w)
				}
			}
		}
		b, th := at(t, "plain", list(4), 6)
		b.lay(6, item{slot: 4, key: 5})
		b.find(th, 0, 5)
		b.hold(th, soul.Who{Slot: 2})
		l, u := chain.NewLink(th.core, th.lane), chain.NewUnlink(th.core, th.lane, 0, 5, soul.Who{})
		for range 4 {
			l.Step(w)
			u.Step(w)
		}
	}
	b, th := at(t, "plain", list(4), 6)
	b.lay(6, item{slot: 4, key: 5})
	b.find(th, 0, 5)
	b.hold(th, soul.Who{Slot: 2})
	l, u := chain.NewLink(th.core, th.lane), chain.NewUnlink(th.core, th.lane, 0, 5, soul.Who{Slot: 2})
	for range 3 {
		if l.Step(nil) != core.Busy || u.Step(nil) != core.Busy {
			t.Error("a nil world")
		}
	}
	if who, holds := th.core.Held(); !holds || who.Slot != 2 {
		t.Error(who, holds)
	}
}
