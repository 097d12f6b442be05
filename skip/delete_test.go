package skip_test

import (
	"math"
	"slices"
	"strconv"
	"testing"

	"revenant/world"
)

// P19.1: a Delete comes to marks at higher levels already: it goes one level lower each time; the lowest level it marks itself.
func TestMarkedAbove(t *testing.T) {
	for _, kind := range kinds {
		for _, height := range []int{2, 3, maxHeight} {
			for from := 1; from <= height; from++ {
				b, th := at(t, kind, tall(9, height), 6)
				it, _ := b.lay(4, item{slot: 3, key: 4, top: height, from: from, state: 1}, tower(6, 9, height))
				b.begin(th, remove(4))
				b.till(th, "e")
				b.steps(th, 2)
				for l := height - 1; l > 0; l-- {
					b.at(th, "f "+strconv.Itoa(l))
					b.steps(th, 2)
					if l < from {
						b.at(th, "f2 "+strconv.Itoa(l))
						b.steps(th, 1)
					}
				}
				b.at(th, "g")
				b.run(th)
				if b.seen["marked f"] != height-from || th.answer != yes {
					t.Error(kind, height, from, b.seen["marked f"], th.answer)
				}
				b.retires(th, it[0].who())
				b.has(9)
				b.clean()
			}
		}
	}
}

// P19.1, P19.2: a Delete comes to a mark at the lowest level: another one took the key out: a new Find, that finds nothing, or another slot with the key, which is deleted then.
func TestMarkedLowest(t *testing.T) {
	for _, kind := range kinds {
		for _, row := range []string{"e", "f 1", "f2 1", "g", "g2"} {
			for _, again := range []bool{false, true} {
				b, it, _, _ := stand(t, kind, remove(4), row)
				a, z := b.threads[0], b.threads[1]
				b.ask(z, remove(4), yes)
				want := no
				if again {
					b.ask(z, insert(4, 3), yes)
					want = yes
				}
				for a.tell.row != "c" {
					b.step(a)
				}
				if b.seen["marked g"] != 1 || a.rolls != 0 {
					t.Fatal(kind, row, again, b.seen["marked g"], a.rolls)
				}
				b.run(a)
				if a.answer != want || len(a.own) > 0 && a.own[0].Slot == it[1].slot {
					t.Error(kind, row, again, a.answer, a.own)
				}
				b.has(2, 9)
				b.levels([]int{8, 6}, []int{8, 6}, []int{8, 6})
				b.clean()
			}
		}
	}
}

// P19.1: f2 and g2 aren't done, since somebody came behind c, or its link has another version: f and g again, as often as that is so.
func TestMarkNotDone(t *testing.T) {
	for _, kind := range kinds {
		for _, height := range []int{1, 2, 3, maxHeight} {
			for level := range height {
				for often := 1; often <= 3; often++ {
					b, th := at(t, kind, tall(9, height), 6)
					it, _ := b.lay(4, tower(3, 4, height), tower(6, 9, height))
					b.begin(th, remove(4))
					row, load := "f2 "+strconv.Itoa(level), "f "+strconv.Itoa(level)
					if level == 0 {
						row, load = "g2", "g"
					}
					for i := range often {
						b.till(th, row)
						word := []uint64{link(6, 5), link(0, 4), link(6, 6)}[i]
						b.w.World.Store(next(it[0].who(), level), world.Val{Word: word, Id: it[1].id})
						b.steps(th, 1)
						b.at(th, load)
						if b.isOut(3, level) || b.w.World.Peek(part(3, nextPart+level)) != word {
							t.Fatal(kind, height, level, i)
						}
					}
					b.w.World.Store(next(it[0].who(), level), to(it[1].who(), 4))
					b.run(th)
					b.retires(th, it[0].who())
					if th.rolls != 0 || b.seen["failed "+row] != often {
						t.Error(kind, height, level, th.rolls, b.seen)
					}
					b.has(9)
					b.clean()
				}
			}
		}
	}
}

// P19.2: a slot comes behind c at a level ahead of its mark there: the mark leads to it, and nothing is lost.
func TestInsertBehind(t *testing.T) {
	for _, kind := range kinds {
		for _, row := range []string{"e", "f 1", "f? 1", "f2 1", "g", "g?", "g2"} {
			for level := 1; level <= 3; level++ {
				b, it, _, _ := stand(t, kind, remove(4), row)
				a, z := b.threads[0], b.threads[1]
				b.ask(z, insert(5, level), yes)
				b.run(a)
				b.retires(a, it[1].who())
				b.has(2, 5, 9)
				for l := range level {
					if got := b.linked(l); !slices.Equal(got, []int{8, 1, 6}) {
						t.Error(kind, row, level, l, got)
					}
				}
				b.clean()
			}
		}
	}
}

// P19.1: the epoch is another one behind a load of a Delete: a new Find, of each load at each level, once and often, and the thread rolled back as often.
func TestNotValid(t *testing.T) {
	for _, kind := range kinds {
		for _, height := range []int{1, 2, 3, maxHeight} {
			loaded := []string{"e?", "g?"}
			for l := 1; l < height; l++ {
				loaded = append(loaded, "f? "+strconv.Itoa(l))
			}
			for _, row := range loaded {
				for often := 1; often <= 3; often++ {
					b, th := at(t, kind, tall(9, height), 6)
					it, _ := b.lay(4, tower(3, 4, height), tower(6, 9, height))
					b.begin(th, remove(4))
					for i, epoch := range []uint64{7, maxEpoch, 5}[:often] {
						b.till(th, row)
						b.put(ref(epochCell), epoch)
						b.steps(th, 1)
						b.at(th, "c")
						if th.core.Rolls() != i+1 || b.seen["invalid "+row] != i+1 {
							t.Fatal(kind, height, row, i, th.core.Rolls())
						}
					}
					b.run(th)
					b.retires(th, it[0].who())
					b.has(9)
					b.clean()
				}
			}
		}
	}
}

// P19.1: a Top that isn't from 1 to Height counts as 1; of any other one each level below it is marked, and no other.
func TestTops(t *testing.T) {
	for _, kind := range kinds {
		for _, height := range []int{1, 2, 3, maxHeight} {
			for _, top := range []uint64{0, 1, 2, 3, 4, 15, 16, 17, 255, 1 << 32, 1<<32 + 2, math.MaxInt64, mark, mark + 2, math.MaxUint64 - 1, math.MaxUint64} {
				b, th := at(t, kind, tall(9, height), 6)
				it, _ := b.lay(4, item{slot: 3, key: 4, top: height, from: height})
				b.put(by(it[0].who(), topPart), top)
				b.begin(th, remove(4))
				b.till(th, "e")
				levels := 1
				if top >= 1 && top <= uint64(height) {
					levels = int(top)
				}
				b.ends(th, 2+3*levels+1)
				for l := range height {
					if b.isOut(3, l) != (l < levels) {
						t.Error(kind, height, top, "is marked at", l, b.isOut(3, l))
					}
				}
				if th.answer != yes {
					t.Error(kind, height, top, th.answer)
				}
				b.has()
			}
		}
	}
}
