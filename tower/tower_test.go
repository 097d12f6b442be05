package tower_test

import (
	"math"
	"slices"
	"strconv"
	"testing"

	"revenant/api"
	"revenant/core"
	"revenant/ghost"
	"revenant/ideal"
	"revenant/queue"
	"revenant/shade"
	"revenant/soul"
	"revenant/tower"
	"revenant/world"
)

// The example: an empty skip list of 2 levels: a checkpoint, and two steps for each level; of 1 and of 16 levels likewise.
func TestExample(t *testing.T) {
	for _, kind := range kinds {
		for height := 1; height <= maxHeight; height++ {
			for _, key := range []uint64{0, 5, math.MaxUint64} {
				w := &watched{World: made(kind)}
				world.Start(w)
				w.forget()
				c := core.New(skip(4, height))
				f := tower.New(c, key)
				w.idle(t)
				step := func(want core.State, made access) {
					t.Helper()
					if state := f.Step(w); state != want {
						t.Fatal(kind, height, name(state))
					}
					w.asked(t, made)
				}
				step(core.Busy, valid)
				for l := height - 1; l >= 0; l-- {
					step(core.Busy, loads(ref(root(l))))
					if l > 0 {
						step(core.Busy, valid)
					}
				}
				step(core.Done, valid)
				for l := range height {
					if f.At(l) != ref(root(l)) || f.Into(l) != val(0) || f.FoundAt(l) {
						t.Error(kind, height, l, f.At(l), f.Into(l))
					}
				}
				if f.Found() || f.Who() != (soul.Who{}) || f.Out() != val(0) || c.Epoch() != 1 || c.Rolls() != 0 {
					t.Error(kind, height, f.Found(), f.Who(), f.Out(), c.Epoch(), c.Rolls())
				}
			}
		}
	}
}

// P18.1: the chapter told access by access, over three levels: one whose lane ends at its root, one at a slot, cutting off another one, one that goes on from that slot.
func TestTable(t *testing.T) {
	for _, kind := range kinds {
		b, th := at(t, kind, skip(9, 3), 6)
		it, links := b.lay(4, item{slot: 3, key: 1, top: 2, from: 2}, item{slot: 8, key: 2, top: 2, from: 1}, item{slot: 1, key: 3, top: 1, from: 1}, item{slot: 5, key: 4, top: 1, from: 0}, item{slot: 2, key: 5, top: 3, from: 3}, item{slot: 9, key: 6, top: 2, from: 0})
		f := tower.New(th.core, 5)
		load := func(at world.At) {
			t.Helper()
			if state := f.Step(b.w); state != core.Busy {
				t.Fatal(name(state))
			}
			b.w.asked(t, loads(at))
			f.Step(b.w)
			b.w.asked(t, valid)
		}
		// The parts of a slot that a lane comes to, and leaves behind, or ends at.
		met := func(i, level int) {
			t.Helper()
			load(next(it[i].who(), level))
			load(by(it[i].who(), keyPart))
		}
		cut := func(at world.At, old, new world.Val) {
			t.Helper()
			if state := f.Step(b.w); state != core.Busy {
				t.Fatal(name(state))
			}
			b.w.asked(t, swaps(at, old, new))
		}
		b.w.forget()
		f.Step(b.w)
		b.w.asked(t, valid)
		load(ref(root(2)))
		met(4, 2)
		load(ref(root(1)))
		met(0, 1)
		load(next(it[1].who(), 1))
		cut(next(it[0].who(), 1), links[1][0], to(it[4].who(), 6))
		met(4, 1)
		load(next(it[0].who(), 0))
		met(1, 0)
		met(2, 0)
		load(next(it[3].who(), 0))
		cut(next(it[2].who(), 0), links[0][2], to(it[4].who(), 6))
		load(next(it[4].who(), 0))
		if f.Step(b.w) != core.Busy {
			t.Fatal("ended")
		}
		b.w.asked(t, loads(by(it[4].who(), keyPart)))
		if f.Step(b.w) != core.Done {
			t.Fatal("goes on")
		}
		b.w.asked(t, valid)
		if !f.Found() || f.Who() != it[4].who() || f.Out() != links[0][4] {
			t.Error(kind, f.Found(), f.Who(), f.Out())
		}
		for l, want := range []struct {
			at   world.At
			into world.Val
		}{{next(it[2].who(), 0), to(it[4].who(), 6)}, {next(it[0].who(), 1), to(it[4].who(), 6)}, {ref(root(2)), to(it[4].who(), 4)}} {
			if f.At(l) != want.at || f.Into(l) != want.into || !f.FoundAt(l) {
				t.Error(kind, l, f.At(l), f.Into(l), f.FoundAt(l))
			}
		}
		for l, want := range [][]int{{3, 8, 1, 2, 9}, {3, 2, 9}, {2}} {
			if got := b.linked(l); !slices.Equal(got, want) {
				t.Error(kind, l, got)
			}
		}
	}
}

// P18.1: each level tells what its own lane ended at: of slots at one level, two and three, with other keys at each.
func TestEachLevel(t *testing.T) {
	for _, kind := range kinds {
		b, th := at(t, kind, skip(9, 4), 6)
		it, _ := b.lay(4, item{slot: 7, key: 2, top: 3, from: 3}, item{slot: 5, key: 5, top: 1, from: 1}, item{slot: 3, key: 6, top: 2, from: 2}, item{slot: 1, key: 8, top: 3, from: 3})
		f := b.find(th, 5)
		// A checkpoint; w at each level; two slots at the level 2, one at 1, one at 0.
		b.ends(th, 1+4*2+4*4)
		for l, want := range []struct {
			at    world.At
			into  world.Val
			found bool
		}{
			{next(it[0].who(), 0), to(it[1].who(), 4), true}, {next(it[0].who(), 1), to(it[2].who(), 4), false},
			{next(it[0].who(), 2), to(it[3].who(), 4), false}, {ref(root(3)), val(link(0, 4)), false},
		} {
			if f.At(l) != want.at || f.Into(l) != want.into || f.FoundAt(l) != want.found {
				t.Error(kind, l, f.At(l), f.Into(l), f.FoundAt(l))
			}
		}
		if !f.Found() || f.Who() != it[1].who() || f.Out() != to(it[2].who(), 4) {
			t.Error(kind, f.Found(), f.Who(), f.Out())
		}
	}
}

// P18.1: levels below 0 and above those that there are: zero values; those that there are aren't.
func TestLevels(t *testing.T) {
	for _, kind := range kinds {
		for height := 1; height <= maxHeight; height++ {
			b, th := at(t, kind, skip(3, height), 6)
			b.lay(4, item{slot: 2, key: 5, top: height, from: height})
			f := b.find(th, 5)
			b.run(th)
			for _, l := range []int{math.MinInt, math.MinInt + 1, -1 << 32, -17, -16, -8, -7, -2, -1, height, height + 1, 15 + height, 16, 17, 64, 1 << 32, math.MaxInt - 1, math.MaxInt} {
				if f.At(l) != (world.At{}) || f.Into(l) != (world.Val{}) || f.FoundAt(l) {
					t.Error(kind, height, l, f.At(l), f.Into(l), f.FoundAt(l))
				}
			}
			for l := range height {
				if f.At(l) != ref(root(l)) || slotOf(f.Into(l).Word) != 2 || !f.FoundAt(l) {
					t.Error(kind, height, l, f.At(l), f.Into(l), f.FoundAt(l))
				}
			}
		}
	}
}

// P18.1: keys below, at and above the key, and at both ends of a word, as numbers without a sign.
func TestKeys(t *testing.T) {
	ends := []uint64{0, 1, 2, 5, 1<<31 - 1, 1 << 31, 1<<32 + 5, 1<<63 - 1, 1 << 63, 1<<63 + 1, math.MaxUint64 - 1, math.MaxUint64}
	for _, kind := range kinds {
		for top := 1; top <= 3; top++ {
			for _, key := range ends {
				for _, there := range ends {
					b, th := at(t, kind, skip(3, 3), 5)
					it, _ := b.lay(5, item{slot: 2, key: there, top: top, from: top})
					f := b.find(th, key)
					n := b.run(th)
					here, who, level := ref(root(0)), it[0].who(), 0
					if there < key {
						here, who, level = next(it[0].who(), 0), soul.Who{}, top-1
					}
					if f.Found() != (there == key) || f.Who() != who || f.At(0) != here || f.FoundAt(top-1) != (there == key) {
						t.Error(kind, key, there, f.Found(), f.Who(), f.At(0))
					}
					// It is come to at each level, but not below one at which it was left behind.
					if n != 1+6+4*(top-level) {
						t.Error(kind, key, there, top, n)
					}
				}
			}
		}
	}
}

// P18.1: the values of a skip list play no part: no Find loads one.
func TestNoValues(t *testing.T) {
	for _, kind := range kinds {
		for key := range uint64(6) {
			b, th := at(t, kind, skip(3, 2), 5)
			b.lay(5, item{slot: 2, key: 1, top: 1, from: 1}, item{slot: 1, key: 3, top: 2, from: 2})
			b.find(th, key)
			b.w.all = nil
			b.run(th)
			if slices.ContainsFunc(b.w.all, func(e event) bool { return e.at.Kind == 5 && e.at.Part != keyPart && e.at.Part < nextPart }) {
				t.Error(kind, key, b.w.all)
			}
		}
	}
}

// P18.2: a slot that is marked at all levels is cut off at all, one that is marked at the upper ones alone at these, and found at the lower ones.
func TestMarked(t *testing.T) {
	for _, kind := range kinds {
		for _, height := range []int{1, 2, 3, 16} {
			for from := range height + 1 {
				for _, deep := range []bool{false, true} {
					b, th := at(t, kind, skip(9, height), 6)
					items := []item{{slot: 4, key: 5, top: height, from: from}, {slot: 6, key: 7, top: height, from: height}}
					if deep {
						items = append([]item{{slot: 2, key: 1, top: height, from: height}}, items...)
					}
					b.lay(4, items...)
					f := b.find(th, 5)
					b.run(th)
					for l := range height {
						is, into := l < from, link(4, 4)
						if !is {
							into = link(6, 6)
						}
						if f.FoundAt(l) != is || f.Into(l).Word != into || slices.Contains(b.linked(l), 4) != is {
							t.Error(kind, height, from, l, f.FoundAt(l), f.Into(l), b.linked(l))
						}
						if here := f.At(l).Place; deep && here != part(2, nextPart+l) || !deep && here != root(l) {
							t.Error(kind, height, from, l, here)
						}
					}
				}
			}
		}
	}
}

// P18.1: whom a Find comes to with a mark at a level is cut off at each version, whatever its key is, also as the last one: the link there leads to nobody then.
func TestCutLast(t *testing.T) {
	for _, kind := range kinds {
		for _, key := range []uint64{0, 4, 5, 6, math.MaxUint64} {
			b, th := at(t, kind, skip(9, 2), 6)
			b.lay(4, item{slot: 4, key: 5, top: 2, from: 0}, item{slot: 6, key: key, top: 2, from: 0})
			f := b.find(th, 5)
			b.ends(th, 1+2*(2+3+3))
			for l := range 2 {
				if f.At(l) != ref(root(l)) || f.Into(l) != val(link(0, 6)) || len(b.linked(l)) != 0 {
					t.Error(kind, key, l, f.At(l), f.Into(l), b.linked(l))
				}
			}
			if f.Found() || f.Who() != (soul.Who{}) || f.Out() != val(0) {
				t.Error(kind, key, f.Found(), f.Who(), f.Out())
			}
		}
	}
}

// P18.1: the link of a level is turned ahead of a cut there: that isn't done, and the Find begins at a checkpoint and the highest level again, of each level, once and often; nothing is rolled back.
func TestCutNotDone(t *testing.T) {
	for _, kind := range kinds {
		for _, height := range []int{1, 2, 3, 16} {
			for level := range height {
				for _, deep := range []bool{false, true} {
					for often := 1; often <= 3; often++ {
						cutNotDone(t, kind, height, level, deep, often)
					}
				}
			}
		}
	}
}

// cutNotDone goes down to a cut at a level so often; deep: behind a slot.
func cutNotDone(t *testing.T, kind string, height, level int, deep bool, often int) {
	b, th := at(t, kind, skip(9, height), 6)
	items := []item{{slot: 4, key: 3, top: level + 1, from: 0}, {slot: 6, key: 5, top: height, from: height}}
	if deep {
		items = append([]item{{slot: 2, key: 1, top: height, from: height}}, items...)
	}
	it, _ := b.lay(4, items...)
	who := it[len(it)-2].who()
	f := b.find(th, 5)
	for i := range often {
		b.until(th, "cut "+strconv.Itoa(level))
		here := th.tell.now().at
		// Another version, to whom it was led to: no other one could tell it apart.
		b.w.World.Store(here, to(who, 7+i))
		b.steps(th, 1)
		if th.tell.row != "c" || b.w.World.Peek(here.Place) != link(4, 7+i) {
			t.Fatal(kind, height, level, th.tell.row)
		}
		b.steps(th, 2)
		if a := b.w.seen[0].at; a != ref(root(height-1)) {
			t.Fatal(kind, height, level, "behind a checkpoint", a)
		}
	}
	b.run(th)
	if !f.Found() || th.rolls != 0 || b.seen["failed cut "+strconv.Itoa(level)] != often || b.seen["c w "+strconv.Itoa(height-1)] != often+1 {
		t.Error(kind, height, level, f.Found(), th.rolls, b.seen)
	}
	for l := range height {
		if slices.Contains(b.linked(l), 4) {
			t.Error(kind, height, level, l, b.linked(l))
		}
	}
}

// P18.1: the epoch is another one behind a load at a level: the Find begins at a checkpoint and the highest level again, of each load of each level, once and often, and the thread rolled back as often.
func TestNotValid(t *testing.T) {
	for _, kind := range kinds {
		for _, height := range []int{1, 2, 3, 16} {
			for level := range height {
				for _, row := range []string{"w?", "x?", "k?"} {
					for often := 1; often <= 3; often++ {
						notValid(t, kind, height, row+" "+strconv.Itoa(level), often)
					}
				}
			}
		}
	}
}

// notValid goes down to a row so often.
func notValid(t *testing.T, kind string, height int, row string, often int) {
	b, th := at(t, kind, skip(9, height), 6)
	b.lay(4, item{slot: 4, key: 3, top: height, from: 0}, item{slot: 6, key: 5, top: height, from: height})
	f := b.find(th, 5)
	epochs := []int{7, maxEpoch, 5}
	for i := range often {
		b.until(th, row)
		b.w.put(ref(epochCell), uint64(epochs[i]))
		b.steps(th, 1)
		if th.tell.row != "c" || th.core.Rolls() != i+1 {
			t.Fatal(kind, height, row, th.tell.row, th.core.Rolls())
		}
		b.steps(th, 2)
		if a := b.w.seen[0].at; a != ref(root(height-1)) {
			t.Fatal(kind, height, row, "behind a checkpoint", a)
		}
		if th.core.Epoch() != epochs[i] {
			t.Fatal(kind, height, row, th.core.Epoch())
		}
	}
	b.run(th)
	if !f.Found() || th.core.Epoch() != epochs[often-1] || th.rolls != often {
		t.Error(kind, height, row, f.Found(), th.core.Epoch())
	}
}

// P18.1: behind the last level's checkpoint no load of another level holds any more: what was told of the upper levels is told anew.
func TestToldAnew(t *testing.T) {
	for _, kind := range kinds {
		b, th := at(t, kind, skip(9, 3), 6)
		old, _ := b.lay(4, item{slot: 4, key: 3, top: 3, from: 3}, item{slot: 6, key: 5, top: 3, from: 3})
		f := b.find(th, 5)
		b.until(th, "w 0")
		b.w.put(ref(epochCell), 7)
		it, _ := b.lay(7, item{slot: 5, key: 5, top: 2, from: 2})
		b.steps(th, 2)
		b.ends(th, 1+3*2+2*4)
		for l := range 3 {
			into := to(it[0].who(), 7)
			if l == 2 {
				into = val(link(0, 7))
			}
			if f.At(l) != ref(root(l)) || f.Into(l) != into || f.FoundAt(l) != (l < 2) {
				t.Error(kind, l, f.At(l), f.Into(l), f.FoundAt(l), old)
			}
		}
		if f.Who() != it[0].who() || th.rolls != 1 {
			t.Error(kind, f.Who(), th.rolls)
		}
	}
}

// P18.1: the first link of a level has a mark, the root's, or that of the slot at which the level above ended: a checkpoint, and from the highest level again, as often as that is so; nothing is rolled back.
func TestMarkedFirst(t *testing.T) {
	for _, kind := range kinds {
		for _, height := range []int{1, 2, 3, 16} {
			for level := range height {
				for _, deep := range []bool{false, true} {
					if deep && level == height-1 {
						continue
					}
					b, th := at(t, kind, skip(9, height), 6)
					it, links := b.lay(4, item{slot: 2, key: 1, top: height, from: height}, item{slot: 6, key: 5, top: height, from: height})
					here, was, key := ref(root(level)), to(it[0].who(), 4), uint64(1)
					if deep {
						here, was, key = next(it[0].who(), level), links[level][0], 5
					}
					b.w.World.Store(here, world.Val{Word: was.Word | mark, Id: was.Id})
					f := b.find(th, key)
					for range 4 {
						b.until(th, "w? "+strconv.Itoa(level))
						b.steps(th, 1)
						if th.tell.row != "c" {
							t.Fatal(kind, height, level, th.tell.row)
						}
					}
					b.w.World.Store(here, was)
					b.run(th)
					if !f.Found() || th.rolls != 0 || f.At(level) != here || f.Into(level) != was {
						t.Error(kind, height, level, f.Found(), th.rolls, f.At(level))
					}
				}
			}
		}
	}
}

// P18.1: a lower level goes on from the link of the slot at which the upper one ended, by who it was when that came to it, whoever it is by now; from a root by nobody's Id.
func TestIds(t *testing.T) {
	for _, kind := range []string{"ghost", "ideal", "shade"} {
		b, th := at(t, kind, skip(9, 3), 5)
		it, _ := b.lay(5, item{slot: 4, key: 1, top: 3, from: 3}, item{slot: 7, key: 3, top: 2, from: 2})
		f := b.find(th, 3)
		b.until(th, "w 1")
		b.w.World.Born(4)
		b.steps(th, 1)
		if a := b.w.seen[0].at; a != next(it[0].who(), 1) {
			t.Error(kind, a, it)
		}
		if kind == "shade" {
			// What it is told of whom the slot isn't any more is any word, and may have a mark.
			continue
		}
		b.until(th, "w 0")
		b.steps(th, 1)
		if a := b.w.seen[0].at; a != next(it[0].who(), 0) {
			t.Error(kind, a, it)
		}
		b.run(th)
		if f.Who() != it[1].who() || f.At(0) != next(it[0].who(), 0) || f.At(1) != next(it[0].who(), 1) || f.At(2) != next(it[0].who(), 2) {
			t.Error(kind, f.Who(), f.At(0), f.At(1), f.At(2))
		}
	}
	// A root to which an Id was stored: what begins there is nobody's, all the same.
	for _, kind := range []string{"ghost", "ideal", "shade"} {
		b, th := at(t, kind, skip(9, 3), 5)
		for l := range 3 {
			b.w.World.Store(ref(root(l)), world.Val{Word: link(0, 5), Id: 9})
		}
		f := b.find(th, 3)
		b.ends(th, 7)
		for l := range 3 {
			if f.At(l) != ref(root(l)) || f.Into(l) != (world.Val{Word: link(0, 5), Id: 9}) {
				t.Error(kind, l, f.At(l), f.Into(l))
			}
		}
		if f.Who() != (soul.Who{}) {
			t.Error(kind, f.Who())
		}
	}
}

// P18.1: a slot at which a level ends is gone on from, whichever number it has, the highest too, and such as the structure hasn't.
func TestSlots(t *testing.T) {
	for _, kind := range kinds {
		for _, slot := range []int{1, 2, 7, 8, 63, 64, 1 << 22, maxSlots} {
			b, th := at(t, kind, skip(2, 16), 5)
			it, _ := b.lay(5, item{slot: slot, key: 1, top: 16, from: 16})
			f := b.find(th, 3)
			b.ends(th, 1+16*2+4)
			for l := range 16 {
				if f.At(l) != next(it[0].who(), l) || f.At(l).Place.Part != 7+l {
					t.Error(kind, slot, l, f.At(l))
				}
			}
		}
	}
}

// P18.1: the epochs of which links can be, and those of which none can: a cut leads nowhere then, at each level; one that can't be an epoch holds for nobody.
func TestEpochs(t *testing.T) {
	for _, kind := range kinds {
		for _, epoch := range []uint64{0, 1, 2, maxEpoch - 1, maxEpoch, maxEpoch + 1, math.MaxInt, 1 << 63, math.MaxUint64} {
			b, th := at(t, kind, skip(9, 2), epoch)
			it, _ := b.lay(4, item{slot: 5, key: 2, top: 2, from: 0}, item{slot: 2, key: 5, top: 2, from: 2})
			f := b.find(th, 5)
			if epoch >= mark {
				for range 5 {
					b.steps(th, 3)
					if th.tell.row != "c" || th.core.Epoch() != 0 {
						t.Fatal(kind, epoch, th.tell.row, th.core.Epoch())
					}
				}
				continue
			}
			b.run(th)
			for l := range 2 {
				if f.Into(l) != (world.Val{Word: link(2, int(epoch)), Id: it[1].id}) || b.w.World.Peek(root(l)) != link(2, int(epoch)) {
					t.Error(kind, epoch, l, f.Into(l))
				}
			}
			if f.Found() != (epoch <= maxEpoch) {
				t.Error(kind, epoch, f.Found())
			}
		}
	}
}

// P18.1: a Find begins with a checkpoint, whichever epoch its thread had, and leaves what the thread holds and has as it is.
func TestThread(t *testing.T) {
	for _, kind := range kinds {
		b, th := at(t, kind, skip(9, 2), 6)
		b.lay(4, item{slot: 5, key: 2, top: 2, from: 0}, item{slot: 2, key: 5, top: 2, from: 2})
		th.core.Hold(soul.Who{Slot: 7, Id: 3})
		th.core.Queue().Push(queue.Entry{Slot: 8, Retired: 6, Id: 4}, queue.Entry{Slot: 9})
		for i, epoch := range []uint64{6, 7, 7, 3} {
			b.w.put(ref(epochCell), epoch)
			b.find(th, 5)
			b.steps(th, 1)
			if th.core.Epoch() != int(epoch) {
				t.Error(kind, i, th.core.Epoch())
			}
			b.run(th)
		}
		if who, _ := th.core.Held(); who != (soul.Who{Slot: 7, Id: 3}) || th.core.Queue().Len() != 2 || th.core.Rolls() != 0 {
			t.Error(kind, who, th.core.Queue().List(), th.core.Rolls())
		}
	}
}

// Rule 4: Finds of two threads go each their own way, and one behind another of the same thread tells nothing of it, nor does the first one of the second.
func TestApart(t *testing.T) {
	b := benchOf(t, "ghost", skip(9, 3), 2)
	it, _ := b.lay(1, item{slot: 1, key: 1, top: 3, from: 3}, item{slot: 2, key: 3, top: 1, from: 1}, item{slot: 3, key: 5, top: 2, from: 2})
	one, two := b.threads[0], b.threads[1]
	f, g := b.find(one, 3), b.find(two, 5)
	for one.tell != nil || two.tell != nil {
		for _, th := range b.threads {
			if th.tell != nil {
				b.step(th)
			}
		}
	}
	if f.Who() != it[1].who() || g.Who() != it[2].who() || f.FoundAt(1) || !g.FoundAt(1) {
		t.Error(f.Who(), g.Who())
	}
	h := b.find(one, 0)
	b.run(one)
	if f.Who() != it[1].who() || f.At(2) != next(it[0].who(), 2) || h.Who() != it[0].who() || h.At(2) != ref(root(2)) || h.Found() {
		t.Error(f.Who(), f.At(2), h.Who(), h.At(2))
	}
}

// P18.1: of a nil thread, and of a structure that is no Skip, there is no Find; of nil Step is Done, all else zero, and there is no access, again and again.
func TestNil(t *testing.T) {
	for _, kind := range kinds {
		inner := made(kind)
		world.Start(inner)
		w := &watched{World: inner}
		before := inner.Count()
		for _, key := range []uint64{0, 5, math.MaxUint64} {
			if f := tower.New(nil, key); f != nil {
				t.Error(kind, key, f)
			}
			for _, conf := range append(others(4), api.Config{}, api.Config{Kind: api.Skip}) {
				if f := tower.New(core.New(conf), key); f != nil {
					t.Error(kind, key, conf, f)
				}
			}
			if f := tower.New(core.New(skip(1, 1)), key); f == nil {
				t.Error(kind, key, "no Find")
			}
		}
		var f *tower.Find
		for range 3 {
			for _, in := range []world.World{w, nil} {
				if state := f.Step(in); state != core.Done {
					t.Error(kind, name(state))
				}
			}
			for _, l := range []int{0, 1, 15, -1, math.MaxInt, math.MinInt} {
				if f.At(l) != (world.At{}) || f.Into(l) != (world.Val{}) || f.FoundAt(l) {
					t.Error(kind, l, f.At(l), f.Into(l), f.FoundAt(l))
				}
			}
			if f.Found() || f.Who() != (soul.Who{}) || f.Out() != (world.Val{}) {
				t.Error(kind, f.Found(), f.Who(), f.Out())
			}
		}
		w.idle(t)
		if inner.Count() != before {
			t.Error(kind, inner.Count(), before)
		}
	}
}

// ask makes all calls of a Find but Step.
func ask(f *tower.Find) {
	f.Found()
	f.Who()
	f.Out()
	for _, l := range []int{0, 1, 2, 15, 16, -1, math.MaxInt, math.MinInt} {
		f.At(l)
		f.Into(l)
		f.FoundAt(l)
	}
}

// P1: ahead of Done nothing is promised of what a Find tells, but that no call panics, behind whichever step, and that it goes on as it would.
func TestAhead(t *testing.T) {
	for _, kind := range kinds {
		b, th := at(t, kind, skip(9, 3), 6)
		b.lay(4, item{slot: 4, key: 3, top: 3, from: 0}, item{slot: 6, key: 5, top: 2, from: 2})
		f := b.find(th, 5)
		for n := 0; th.tell != nil; n++ {
			ask(f)
			b.step(th)
			if n == 20 {
				b.w.put(ref(epochCell), 7)
			}
		}
		if !f.Found() || th.rolls != 1 {
			t.Error(kind, f.Found(), th.rolls)
		}
	}
}

// around is a world of another package, with a world in it: of nil, and around none, it panics.
type around struct{ world.World }

// none are worlds that are none.
func none() []world.World {
	var p *world.Plain
	var g *ghost.Ghost
	var i *ideal.Ideal
	var s *shade.Shade
	var a *around
	var n *watched
	return []world.World{nil, p, g, i, s, a, around{}, &around{}, around{p}, &around{a}, n}
}

// P1: no step panics, whatever world is handed in, behind whichever step, and behind the last one.
func TestWorldOfNone(t *testing.T) {
	for _, none := range none() {
		for _, kind := range kinds {
			for n := range 30 {
				b, th := at(t, kind, skip(9, 2), 5)
				b.lay(4, item{slot: 4, key: 1, top: 2, from: 2}, item{slot: 6, key: 3, top: 2, from: 0}, item{slot: 7, key: 5, top: 1, from: 1})
				f := tower.New(th.core, 5)
				for range n {
					f.Step(b.w)
				}
				for range 30 {
					f.Step(none)
					ask(f)
					f.Step(b.w)
				}
			}
		}
	}
}

// P1: a load or a swap in no world isn't made, and is in the next one; a validation there isn't valid, and a checkpoint has the epoch 0, as layer 13's: the Find begins again.
func TestNoWorld(t *testing.T) {
	for _, none := range []world.World{nil, around{}, (*around)(nil)} {
		for n := range 23 {
			b, th := at(t, "ghost", skip(9, 2), 5)
			b.lay(4, item{slot: 4, key: 1, top: 2, from: 2}, item{slot: 6, key: 3, top: 2, from: 0}, item{slot: 7, key: 5, top: 2, from: 2})
			f := b.find(th, 5)
			b.steps(th, n)
			row := th.tell.row
			rolls, epoch := 0, 5
			switch row {
			case "c":
				epoch = 0
			case "w?", "x?", "k?":
				rolls = 1
			}
			if state := f.Step(none); state != core.Busy || th.core.Rolls() != rolls || th.core.Epoch() != epoch {
				t.Error(n, row, name(state), th.core.Rolls(), th.core.Epoch())
			}
			for n := 0; f.Step(b.w) != core.Done; n++ {
				if n == alone(b.conf) {
					t.Fatal(n, row, "no end")
				}
			}
			if !f.Found() || f.Who().Slot != 7 {
				t.Error(n, row, f.Found(), f.Who())
			}
		}
	}
}

// P1: no call panics, of a Find that no call made either, and of a thread that none did.
func TestZero(t *testing.T) {
	w := world.New()
	for range 3 {
		f := &tower.Find{}
		for range 4 {
			f.Step(nil)
			f.Step(w)
			ask(f)
		}
		if f := tower.New(&core.Core{}, 5); f != nil {
			t.Error(f)
		}
	}
	if n := w.Count(); n.Stores != 0 || n.Swaps != 0 || n.Adds != 0 {
		t.Error(n)
	}
}

// Rule 8, P1: Finds that are mixed up, of one thread at once and by turns in several worlds, promise nothing, but none of their calls panics.
func TestMixed(t *testing.T) {
	x := numbers(8)
	for _, conf := range []api.Config{skip(3, 1), skip(3, 3), skip(3, 16)} {
		var worlds []world.World
		for _, kind := range kinds {
			b, _ := at(t, kind, conf, 1)
			b.lay(1, item{slot: 1, key: 1, top: conf.Height, from: conf.Height}, item{slot: 2, key: 2, top: conf.Height, from: 0}, item{slot: 3, key: 3, top: 1, from: 1})
			worlds = append(worlds, b.w.World)
		}
		threads := []*core.Core{core.New(conf), core.New(conf)}
		finds := []*tower.Find{nil}
		for range 6000 {
			c, w := one(&x, threads), one(&x, worlds)
			switch x.below(20) {
			case 0:
				finds = append(finds, tower.New(c, uint64(x.below(5))))
			case 1:
				c.Check(w)
			case 2:
				ask(one(&x, finds))
			case 3:
				w.Store(ref(epochCell), val(uint64(x.below(3))))
			default:
				one(&x, finds).Step(w)
			}
		}
	}
}
