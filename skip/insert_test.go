package skip_test

import (
	"math"
	"slices"
	"strconv"
	"testing"

	"revenant/api"
	"revenant/core"
	"revenant/queue"
	"revenant/soul"
	"revenant/world"
)

// P19.1: t isn't done: a new Find, with the slot still held, and s again, as often as that is so.
func TestPutNotDone(t *testing.T) {
	for _, kind := range kinds {
		for level := 1; level <= 3; level++ {
			for often := 1; often <= 3; often++ {
				b, it, links, n := stand(t, kind, insert(5, level), "t")
				a, here := b.threads[0], next(it[1].who(), 0)
				for i := range often {
					word := []uint64{link(6, 5), marked(6, 4), link(1, 4)}[i]
					b.w.World.Store(here, world.Val{Word: word, Id: it[2].id})
					b.steps(a, 1)
					b.at(a, "c")
					if got := b.w.World.Peek(here.Place); got != word || a.held != n || b.w.World.Peek(part(5, statePart)) != 0 {
						t.Fatal(kind, level, i, got, a.held)
					}
					b.w.World.Store(here, links[0][1])
					b.till(a, "s 0")
					b.till(a, "t")
				}
				b.ends(a, level+1)
				if a.answer != yes {
					t.Error(kind, level, a.answer)
				}
				b.has(2, 4, 5, 9)
				b.clean()
			}
		}
	}
}

// P19.1: u isn't done, at each level and in structures of many: a Find, that comes to n; its link there is what it is to be already: u again; and of all higher levels too what n's link is is asked first.
func TestRaiseNotDone(t *testing.T) {
	for _, kind := range kinds {
		for _, height := range []int{2, 3, 5, maxHeight} {
			for level := 1; level < height; level++ {
				for often := 1; often <= 3; often++ {
					b, th := at(t, kind, tall(9, height), 6)
					b.lay(4, tower(8, 2, height), tower(6, 9, height))
					b.born(th, 5, 5)
					b.begin(th, insert(5, height))
					at := strconv.Itoa(level)
					for i := range often {
						b.till(th, "u "+at)
						here := th.tell.levels[level].at
						b.w.World.Store(here, world.Val{Word: link(6, 7+i), Id: th.tell.levels[level].w.Id})
						b.steps(th, 1)
						b.at(th, "c")
						b.till(th, "v "+at)
						b.steps(th, 1)
						b.at(th, "u "+at)
					}
					b.steps(th, 1)
					for l := level + 1; l < height; l++ {
						b.at(th, "v "+strconv.Itoa(l))
						b.steps(th, 1)
						b.at(th, "u "+strconv.Itoa(l))
						b.steps(th, 1)
					}
					b.at(th, "z")
					b.ends(th, 1)
					for l := range height {
						if got := b.live(l); !slices.Equal(got, []int{8, 5, 6}) || b.w.World.Peek(part(5, nextPart+l)) != link(6, 6) {
							t.Error(kind, height, level, l, got)
						}
					}
					if b.seen["is n"] != often || th.answer != yes || th.rolls != 0 {
						t.Error(kind, height, level, b.seen["is n"], th.answer)
					}
					b.clean()
				}
			}
		}
	}
}

// P19.1: u isn't done: behind the Find n's link leads elsewhere than to where it is to stand, or has another epoch: y2 turns it, at each level.
func TestTurn(t *testing.T) {
	for _, kind := range kinds {
		for level := 1; level < 3; level++ {
			for _, how := range []string{"insert", "remove", "epoch"} {
				at := strconv.Itoa(level)
				b, _, _, n := stand(t, kind, insert(5, 3), "u "+at)
				a, z := b.threads[0], b.threads[1]
				last, version := 6, 6
				switch how {
				case "insert":
					// The slot 1 comes between n and the last one, at this level and at all lower ones.
					b.ask(z, insert(7, level+1), yes)
					last = 1
				case "remove":
					// The last one goes, and the slot 1 stands there.
					b.ask(z, remove(9), yes)
					b.ask(z, insert(9, 3), yes)
					last = 1
				case "epoch":
					b.ask(z, insert(7, level+1), yes)
					b.ask(z, remove(7), yes)
					b.put(ref(epochCell), 7)
					version = 7
				}
				b.steps(a, 1)
				b.at(a, "c")
				b.till(a, "v "+at)
				b.steps(a, 1)
				b.at(a, "y2 "+at)
				b.w.forget()
				b.steps(a, 1)
				if got := b.w.World.Peek(part(5, nextPart+level)); got != link(last, version) {
					t.Error(kind, level, how, got)
				}
				b.at(a, "u "+at)
				b.run(a)
				if a.answer != yes || b.w.World.Peek(part(5, statePart)) != 1 || len(a.own) != 0 {
					t.Error(kind, level, how, a.answer, a.own)
				}
				for l := range 3 {
					if !slices.Contains(b.live(l), n.Slot) {
						t.Error(kind, level, how, "isn't linked at", l)
					}
				}
				b.clean()
			}
		}
	}
}

// renew: a thread has nothing.
func (b *bench) renew(th *thread) {
	th.core, th.own = core.New(b.conf), nil
	b.check(th)
}

// retires holds that a thread has retired a slot, which is linked nowhere and deleted, and that its op was answered true.
func (b *bench) retires(th *thread, who soul.Who) {
	b.t.Helper()
	want := []queue.Entry{{Slot: who.Slot, Retired: int(b.w.World.Peek(epochCell)), Id: who.Id}}
	if !slices.Equal(th.own, want) || b.isLinked(who.Slot) || th.answer != yes {
		b.t.Fatal(b.kind, "has", th.own, "not", want, th.answer)
	}
}

// P19.1, P19.3: n is deleted while it is still raised: who deletes it doesn't retire it; a u that is done all the same links it, marked, and who put it in comes second to its State, cuts it off at each level and retires it.
func TestRaiseDeleted(t *testing.T) {
	for _, kind := range kinds {
		for level := 1; level <= 3; level++ {
			for l := 1; l < level; l++ {
				b, _, _, n := stand(t, kind, insert(5, level), "u "+strconv.Itoa(l))
				a, z := b.threads[0], b.threads[1]
				b.ask(z, remove(5), yes)
				if slices.ContainsFunc(z.own, func(e queue.Entry) bool { return e.Slot == n.Slot }) || b.w.World.Peek(part(5, statePart)) != 2 {
					t.Fatal(kind, level, l, z.own)
				}
				b.has(2, 4, 9)
				b.steps(a, level-l)
				b.at(a, "z")
				// It is linked where it was raised behind the mark.
				if got := b.linked(level - 1); !slices.Contains(got, n.Slot) || slices.Contains(b.live(level-1), n.Slot) {
					t.Fatal(kind, level, l, got)
				}
				b.steps(a, 1)
				b.at(a, "c")
				b.run(a)
				b.retires(a, n)
				b.has(2, 4, 9)
				b.clean()
			}
		}
	}
}

// P19.1, P19.3: a Find behind u comes to another slot than n, since n was deleted: z at once, which comes too late; also where another one with its key is there by now, at each level.
func TestIsntN(t *testing.T) {
	for _, kind := range kinds {
		for level := 1; level < 3; level++ {
			for _, again := range []api.Op{insert(5, 3), insert(5, 1), insert(7, 3), insert(4, 1), has(5)} {
				b, _, _, n := stand(t, kind, insert(5, 3), "u "+strconv.Itoa(level))
				a, z := b.threads[0], b.threads[1]
				b.ask(z, remove(5), yes)
				b.begin(z, again)
				b.run(z)
				// Another version of where the slot that stands ahead of it leads: no u is done.
				here := a.tell.levels[level].at
				was := b.w.World.Load(here)
				was.Word++
				b.w.World.Store(here, was)
				b.steps(a, 1)
				b.at(a, "c")
				b.till(a, "z")
				if b.seen["isn't n"] != 1 {
					t.Fatal(kind, level, again, b.seen["isn't n"])
				}
				b.steps(a, 1)
				b.at(a, "c")
				b.run(a)
				b.retires(a, n)
				keys := []uint64{2, 4, 9}
				if again.Kind == api.Insert && again.Key != 4 {
					keys = []uint64{2, 4, again.Key, 9}
				}
				b.has(keys...)
				b.clean()
			}
		}
	}
}

// P19.1, P19.3: n is deleted between the Find behind a u and v, or y2: v sees the mark, and y2 isn't done: z, which comes too late.
func TestMarkedAtLast(t *testing.T) {
	for _, kind := range kinds {
		for level := 1; level < 3; level++ {
			for _, row := range []string{"v", "y2"} {
				at := strconv.Itoa(level)
				b, _, _, n := stand(t, kind, insert(5, 3), "u "+at)
				a, z := b.threads[0], b.threads[1]
				b.ask(z, insert(7, level+1), yes)
				b.steps(a, 1)
				b.till(a, row+" "+at)
				b.ask(z, remove(5), yes)
				b.steps(a, 1)
				b.at(a, "z")
				b.steps(a, 1)
				b.at(a, "c")
				b.run(a)
				b.retires(a, n)
				b.has(2, 4, 7, 9)
				b.clean()
			}
		}
	}
}

// P19.1: y2 isn't done since n's link is another one, of which there is no mark: z all the same, and n stands at fewer levels.
func TestTurnNotDone(t *testing.T) {
	for _, kind := range kinds {
		for level := 1; level < 3; level++ {
			at := strconv.Itoa(level)
			b, _, _, n := stand(t, kind, insert(5, 3), "u "+at)
			a, z := b.threads[0], b.threads[1]
			b.ask(z, insert(7, level+1), yes)
			b.steps(a, 1)
			b.till(a, "y2 "+at)
			b.w.World.Store(next(n, level), val(link(0, 3)))
			b.steps(a, 1)
			b.at(a, "z")
			b.ends(a, 1)
			for l := range 3 {
				if is := slices.Contains(b.linked(l), n.Slot); is != (l < level) {
					t.Error(kind, level, l, b.linked(l))
				}
			}
			if a.answer != yes || len(a.own) != 0 || b.w.World.Peek(part(5, nextPart+level)) != link(0, 3) {
				t.Error(kind, level, a.answer, a.own)
			}
			b.clean()
		}
	}
}

// P19.1, P19.3: z and h, each ahead of the other one and behind it: whoever comes second to the State retires the slot, once; the example of one who deletes what another one still raises.
func TestSecond(t *testing.T) {
	for _, kind := range kinds {
		for level := 1; level <= 3; level++ {
			for _, deleted := range []bool{false, true} {
				b, _, _, n := stand(t, kind, insert(5, level), "z")
				a, z := b.threads[0], b.threads[1]
				b.renew(z)
				b.begin(z, remove(5))
				b.till(z, "h")
				b.has(2, 4, 9)
				first, second, row := a, z, "h"
				if deleted {
					first, second, row = z, a, "z"
				}
				b.ends(first, 1)
				if first.answer != yes || len(first.own) != 0 {
					t.Fatal(kind, level, deleted, first.answer, first.own)
				}
				b.at(second, row)
				b.steps(second, 1)
				b.at(second, "c")
				for l := range level {
					if !slices.Contains(b.linked(l), n.Slot) {
						t.Fatal(kind, level, deleted, "isn't linked at", l)
					}
				}
				b.till(second, "r1")
				if b.isLinked(n.Slot) {
					t.Fatal(kind, level, deleted, "is still linked")
				}
				b.ends(second, 2)
				b.retires(second, n)
				if len(first.own) != 0 {
					t.Error(kind, level, first.own)
				}
				b.clean()
			}
		}
	}
}

// P19.1: z and h go by the State 0 alone: at any other one they come too late, and leave it.
func TestStates(t *testing.T) {
	for _, kind := range kinds {
		for _, state := range []uint64{1, 2, 3, 7, mark, math.MaxUint64} {
			for row, o := range map[string]api.Op{"z": insert(5, 2), "h": remove(4)} {
				b, _, _, _ := stand(t, kind, o, row)
				a := b.threads[0]
				mine := a.tell.mine
				b.put(by(mine, statePart), state)
				b.steps(a, 1)
				b.at(a, "c")
				b.run(a)
				if got := b.w.World.Peek(part(mine.Slot, statePart)); got != state || a.answer != yes || len(a.own) != 1 || a.own[0].Slot != mine.Slot {
					t.Error(kind, row, state, got, a.answer, a.own)
				}
			}
		}
	}
}

// P19.1: the Find behind z and h goes on till it is Done, also where the epoch goes on in its middle and where a cut isn't done; then the Retire goes by the epoch that is there.
func TestFindTillDone(t *testing.T) {
	for _, kind := range kinds {
		for _, deleted := range []bool{false, true} {
			for cut := 0; ; cut++ {
				b, _, _, n := stand(t, kind, insert(5, 3), "z")
				a, z := b.threads[0], b.threads[1]
				b.renew(z)
				b.begin(z, remove(5))
				b.till(z, "h")
				first, second := a, z
				if deleted {
					first, second = z, a
				}
				b.ends(first, 1)
				b.steps(second, 1)
				for range cut {
					b.steps(second, 1)
					if second.tell.row == "r1" {
						break
					}
				}
				b.put(ref(epochCell), 8)
				over := second.tell.row == "r1"
				b.till(second, "r1")
				b.ends(second, 2)
				b.retires(second, n)
				if over {
					break
				}
				if cut > 0 && second.rolls == 0 && second.epoch != 8 {
					t.Error(kind, deleted, cut, second.rolls, second.epoch)
				}
				b.clean()
			}
		}
	}
}

// P19.1: an Insert that holds a slot finds its key at a level above 0 and below Top, and not at the level 0: a new Find, as often as that is so, and nothing is stored; at a level from Top on it isn't asked, nor where no slot is held.
func TestHides(t *testing.T) {
	for _, kind := range kinds {
		for top := 2; top <= 4; top++ {
			for level := 1; level <= 4; level++ {
				for _, holds := range []bool{true, false} {
					b, th := at(t, kind, tall(9, 4), 6)
					b.put(ref(freshCell), 8)
					it, _ := b.lay(4, tower(8, 2, 1), item{slot: 3, key: 5, top: top, from: top})
					// Marked at all levels but its highest one: it is found there alone.
					for l := range top - 1 {
						b.put(next(it[1].who(), l), marked(0, 4))
					}
					if holds {
						b.born(th, 5, 5)
					}
					b.begin(th, insert(5, level))
					if !holds {
						b.till(th, "f1")
						if b.seen["hides"] != 0 {
							t.Fatal(kind, top, level)
						}
					}
					if top <= level {
						for i := range 4 {
							for b.seen["hides"] == i {
								b.steps(th, 1)
							}
							b.at(th, "c")
						}
						if th.held.Slot == 0 || slices.ContainsFunc(b.w.seen, func(a access) bool { return a.kind == "store" && a.at.Place.Part >= nextPart }) {
							t.Fatal(kind, top, level, th.held)
						}
						b.put(next(it[1].who(), top-1), marked(0, 4))
					}
					b.run(th)
					if th.answer != yes || b.seen["hides"] != 0 && top > level {
						t.Error(kind, top, level, holds, th.answer, b.seen["hides"])
					}
					b.has(2, 5)
				}
			}
		}
	}
}

// P19.1, P19.3: a slot with the op's key is deleted while an Insert's Find is between the levels: it found it above, and doesn't at the lowest one: a new Find, which cuts off what the other one still links, so that who put that in retires it.
func TestHidden(t *testing.T) {
	for _, kind := range kinds {
		for level := 2; level <= 3; level++ {
			b := benchOf(t, kind, tall(6, 3), 3)
			a, z, y := b.threads[0], b.threads[1], b.threads[2]
			// The third one still raises a slot with the key 5.
			b.begin(y, insert(5, 3))
			b.till(y, "u 2")
			n := y.tell.mine
			b.ask(z, insert(9, 3), yes)
			b.born(a, 6, 5)
			b.begin(a, insert(5, level))
			b.till(a, "w 0")
			b.ask(z, remove(5), yes)
			for a.tell.row != "c" {
				b.step(a)
			}
			if b.seen["hides"] != 1 || a.held.Slot != 6 {
				t.Fatal(kind, level, b.seen["hides"], a.held)
			}
			b.run(a)
			b.ask(z, has(5), yes)
			b.run(y)
			b.retires(y, n)
			if a.answer != yes {
				t.Error(kind, level, a.answer)
			}
			b.has(5, 9)
			b.clean()
		}
	}
}

// P19.1: an Insert of a key that came while a slot was taken for it drops the slot, which the next Insert takes at once; with none held nothing is dropped.
func TestInsertFound(t *testing.T) {
	for _, kind := range kinds {
		for level := 1; level <= 3; level++ {
			b := benchOf(t, kind, tall(4, 3), 2)
			a, z := b.threads[0], b.threads[1]
			b.begin(a, insert(5, level))
			b.till(a, "b state")
			b.steps(a, 1)
			b.ask(z, insert(5, 3), yes)
			b.run(a)
			want := queue.Entry{Slot: 1}
			if kind != "plain" {
				want.Id = 1
			}
			if a.answer != no || b.seen["drop"] != 1 || !slices.Equal(a.core.Queue().List(), []queue.Entry{want}) {
				t.Fatal(kind, a.answer, b.seen["drop"], a.core.Queue().List())
			}
			b.ask(a, insert(5, level), no)
			if b.seen["drop"] != 1 || !slices.Equal(a.core.Queue().List(), []queue.Entry{want}) {
				t.Fatal(kind, b.seen["drop"], a.core.Queue().List())
			}
			// The slot 1 is held again by a birth, with no access of the fresh ones: it was never seen.
			b.begin(a, insert(6, 4-level))
			b.till(a, "b")
			b.run(a)
			if got := b.linked(0); !slices.Equal(got, []int{2, 1}) || a.core.Queue().Len() != 0 || b.w.World.Peek(part(1, topPart)) != uint64(4-level) {
				t.Error(kind, got)
			}
			b.has(5, 6)
			b.clean()
		}
	}
}

// P19.1: a slot whose links were stored, and that was dropped then, is put in at other levels later: they are stored anew.
func TestDroppedLinks(t *testing.T) {
	for _, kind := range kinds {
		for first := 1; first <= 3; first++ {
			for second := 1; second <= 3; second++ {
				b := benchOf(t, kind, tall(4, 3), 2)
				a, z := b.threads[0], b.threads[1]
				b.begin(a, insert(5, first))
				b.till(a, "t")
				b.ask(z, insert(5, 3), yes)
				b.run(a)
				if a.answer != no {
					t.Fatal(kind, a.answer)
				}
				b.ask(a, insert(3, second), yes)
				for l := range 3 {
					want := []int{1, 2}
					if l >= second {
						want = []int{2}
					}
					if got := b.live(l); !slices.Equal(got, want) {
						t.Error(kind, first, second, l, got)
					}
				}
				b.clean()
			}
		}
	}
}

// P19.1: what a thread holds ahead of an op is left alone by a Has and a Delete, linked by an Insert of what isn't there, and dropped by one of what is.
func TestHeldAhead(t *testing.T) {
	for _, kind := range kinds {
		for _, s := range []struct {
			op    api.Op
			want  api.Answer
			holds bool
			own   int
		}{
			{has(4), yes, true, 0}, {has(5), no, true, 0},
			{remove(4), yes, true, 1}, {remove(5), no, true, 0},
			{insert(4, 2), no, false, 1}, {insert(5, 1), yes, false, 0}, {insert(5, 3), yes, false, 0},
		} {
			b, th := at(t, kind, tall(9, 3), 6)
			b.lay(4, tower(8, 2, 3), tower(3, 4, 2))
			b.born(th, 7, s.op.Key)
			b.ask(th, s.op, s.want)
			if _, holds := th.core.Held(); holds != s.holds || th.core.Queue().Len() != s.own {
				t.Error(kind, s.op, holds, th.core.Queue().List())
			}
			b.clean()
		}
	}
}
