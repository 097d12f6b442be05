package skip_test

import (
	"slices"
	"testing"

	"revenant/alloc"
	"revenant/api"
	"revenant/core"
	"revenant/queue"
	"revenant/soul"
)

// P19.1: no slot is left: ErrFull, and nothing changes; what comes to no slot goes on to be answered, and behind a Delete there is one.
func TestFull(t *testing.T) {
	for _, kind := range kinds {
		for _, height := range []int{1, 2, maxHeight} {
			b := benchOf(t, kind, tall(2, height), 2)
			a, z := b.threads[0], b.threads[1]
			b.ask(a, insert(5, 1), yes)
			// The last free slot.
			b.ask(a, insert(7, height), yes)
			for range 3 {
				for _, th := range b.threads {
					for _, level := range []int{1, height} {
						// A Find, f1, p1.
						b.begin(th, insert(6, level))
						b.till(th, "f1")
						b.ends(th, 2)
						if th.answer != refused(api.ErrFull) {
							t.Fatal(kind, th.answer)
						}
						b.has(5, 7)
					}
					b.ask(th, insert(7, 1), no)
					b.ask(th, has(5), yes)
					b.ask(th, remove(6), no)
				}
			}
			b.ask(z, remove(7), yes)
			// The slot is z's own by now, and not a's.
			b.ask(a, insert(6, height), refused(api.ErrFull))
			b.ask(z, insert(6, height), yes)
			b.has(5, 6)
			b.clean()
		}
	}
}

// P19.1: the epoch is at the limit: a slot that was retired in it isn't born any more: ErrEpoch, told by the step that ended the Find; all that comes to no slot goes on to be answered.
func TestLate(t *testing.T) {
	for _, kind := range kinds {
		for _, limit := range []int{2, 3} {
			b := benchOf(t, kind, limited(1, 2, limit), 1)
			th := b.threads[0]
			for i := range limit {
				b.ask(th, insert(5, 1+i%2), yes)
				b.ask(th, remove(5), yes)
			}
			for range 3 {
				if n := b.ask(th, insert(5, 2), refused(api.ErrEpoch)); n != 5 {
					t.Error(kind, n)
				}
				b.has()
				b.ask(th, has(5), no)
				b.ask(th, remove(5), no)
			}
			if got := b.w.World.Peek(epochCell); got != uint64(limit) || th.core.Queue().Len() != 1 {
				t.Error(kind, got, th.core.Queue().List())
			}
			b.clean()
		}
	}
}

// P19.1: an Alloc is Late: the pool's version, or the epoch behind a slot that came out of the pool, is at the limit: ErrEpoch.
func TestLateAlloc(t *testing.T) {
	for _, kind := range kinds {
		b := benchOf(t, kind, limited(2, 2, 9), 1)
		th := b.threads[0]
		b.put(ref(freshCell), 2)
		b.put(ref(poolCell), link(2, 9))
		if n := b.ask(th, insert(5, 2), refused(api.ErrEpoch)); n != 7 {
			t.Error(kind, n)
		}
		b.put(ref(poolCell), link(2, 8))
		b.put(ref(part(2, retirePart)), 9)
		b.put(ref(epochCell), 9)
		if n := b.ask(th, insert(5, 2), refused(api.ErrEpoch)); n != 10 {
			t.Error(kind, n)
		}
		if got := th.core.Queue().List(); !slices.Equal(got, []queue.Entry{{Slot: 2, Retired: 9}}) {
			t.Error(kind, got)
		}
		b.has()
		b.ask(th, has(5), no)
	}
}

// P19.1: a slot that was retired in this epoch: the epoch goes on, a new Find, a birth, a new Find, and the slot is put in.
func TestEpochGoesOn(t *testing.T) {
	for _, kind := range kinds {
		b := benchOf(t, kind, tall(1, 2), 1)
		th := b.threads[0]
		for i := range 4 {
			// A Find (5), a1 (1), a Find (5), a birth (5), a Find (5), s (2), t, u, z; the first time a slot is fresh.
			if n := b.ask(th, insert(5, 2), yes); n != []int{21, 26}[min(1, i)] {
				t.Error(kind, i, n)
			}
			b.ask(th, remove(5), yes)
			if got := b.w.World.Peek(epochCell); got != uint64(i+1) || th.core.Epoch() != i+1 {
				t.Error(kind, i, got)
			}
		}
		b.clean()
	}
}

// P19.1: the epoch goes on ahead of any one step of an op: it is answered as it would be, and nothing stale goes anywhere.
func TestRollsBack(t *testing.T) {
	for _, kind := range kinds {
		for _, o := range []api.Op{insert(5, 3), insert(5, 1), insert(4, 3), remove(4), remove(2), has(4)} {
			rolled := 0
			for cut := 0; ; cut++ {
				b := benchOf(t, kind, tall(9, 3), 1)
				th := b.threads[0]
				it, _ := b.lay(1, tower(8, 2, 3), tower(3, 4, 2), tower(6, 9, 3))
				s := laidOf(it, 3)
				answer, _ := s.after(o, item{slot: 1})
				b.begin(th, o)
				n := 0
				for ; n < cut && th.tell != nil; n++ {
					b.step(th)
				}
				if th.tell == nil {
					break
				}
				b.put(ref(epochCell), 2)
				b.run(th)
				if th.answer != answer {
					t.Fatal(kind, o, cut, th.answer)
				}
				b.levels(s.slots()...)
				rolled += th.rolls
				b.clean()
			}
			if rolled == 0 {
				t.Error(kind, o, "never rolled back")
			}
		}
	}
}

// P19.1: the pool's slots are taken by another one in the middle of an Alloc, which begins with the pool again; and the epoch goes on between the two steps of a Retire.
func TestPool(t *testing.T) {
	for _, kind := range kinds {
		b := benchOf(t, kind, tall(5, 2), 2)
		a, z := b.threads[0], b.threads[1]
		it, _ := b.lay(1, tower(3, 4, 2))
		b.put(ref(freshCell), 5)
		one, two := soul.Who{Slot: 1, Id: b.w.World.Born(1)}, soul.Who{Slot: 2, Id: b.w.World.Born(2)}
		b.w.World.Store(by(one, chainPart), to(two, 0))
		b.w.World.Store(ref(poolCell), to(one, 3))
		b.begin(a, insert(6, 2))
		b.till(a, "p4")
		b.ask(z, insert(5, 1), yes)
		b.steps(a, 1)
		b.at(a, "p1")
		b.run(a)
		if a.answer != yes || !slices.Equal(b.linked(0), []int{3, 1, 2}) || !slices.Equal(b.linked(1), []int{3, 2}) {
			t.Error(kind, a.answer, b.linked(0), b.linked(1))
		}
		b.begin(a, remove(4))
		b.till(a, "r2")
		b.put(ref(epochCell), 2)
		b.ends(a, 1)
		if got := a.core.Queue().List(); !slices.Equal(got, []queue.Entry{{Slot: 3, Retired: 1, Id: it[0].id}}) {
			t.Error(kind, got)
		}
		b.clean()
	}
}

// P19.3: a thread that deletes gives its slots away, and another one takes them: they are somebody else there, and nothing that the first one left leads to them.
func TestGiven(t *testing.T) {
	for _, kind := range kinds {
		b := benchOf(t, kind, tall(2, 3), 2)
		a, z := b.threads[0], b.threads[1]
		for i := range 4 {
			b.ask(a, insert(5, 3), yes)
			b.ask(a, insert(7, 2), yes)
			b.ask(a, remove(5), yes)
			b.ask(a, remove(7), yes)
			g := alloc.NewGive(a.core)
			for g.Step(b.w) == core.Busy {
			}
			if g.Given() != 2 {
				t.Fatal(kind, i, g.Given())
			}
			a.epoch, a.own = a.core.Epoch(), a.core.Queue().List()
			b.ask(z, insert(6, 1+i%3), yes)
			b.has(6)
			b.ask(z, remove(6), yes)
			g = alloc.NewGive(z.core)
			for g.Step(b.w) == core.Busy {
			}
			z.epoch, z.own = z.core.Epoch(), z.core.Queue().List()
		}
		b.clean()
	}
}
