package tower_test

import (
	"math"
	"slices"
	"strconv"
	"testing"

	"revenant/api"
	"revenant/core"
	"revenant/soul"
	"revenant/world"
)

// expected is what a Find that goes on alone comes to at one level, by the promises: behind which item it ends, and ahead of which one, whether the link between them is one that it swapped in, and which slots are linked behind it.
type expected struct {
	behind int // -1: the root
	ahead  int // as many as there are: none
	cut    bool
	linked []int
}

// first is the first item without a mark at a level that hasn't a lesser key; as many as there are, if there is none.
func first(items []item, level int, key uint64) int {
	for i, it := range items {
		if level < it.top && !it.isOut(level) && it.key >= key {
			return i
		}
	}
	return len(items)
}

// expect tells what a Find comes to at each level, and behind how many steps.
func expect(items []item, height int, key uint64) ([]expected, int) {
	all, steps, behind := make([]expected, height), 1, -1
	for l := height - 1; l >= 0; l-- {
		e := expected{ahead: first(items, l, key)}
		steps += 2
		for i, it := range items {
			switch {
			case l >= it.top:
				continue
			case i <= behind || i > e.ahead:
				// What it doesn't come to stays, whether it is marked or not.
			case it.isOut(l):
				steps, e.cut = steps+3, true
				continue
			case i < e.ahead:
				steps, e.cut, behind = steps+4, false, i
			default:
				steps += 4
			}
			e.linked = append(e.linked, it.slot)
		}
		e.behind = behind
		all[l] = e
	}
	return all, steps
}

// found lays a skip list, and holds a Find that goes on alone against the promises.
func found(t *testing.T, kind string, conf api.Config, key uint64, list ...item) {
	t.Helper()
	b, th := at(t, kind, conf, 6)
	items, links := b.lay(4, list...)
	f := b.find(th, key)
	all, steps := expect(items, conf.Height, key)
	if n := b.run(th); n != steps || n > alone(conf) || th.rolls != 0 {
		t.Fatal(kind, conf, key, items, "is done behind", n, "not", steps)
	}
	for l, e := range all {
		if got := b.linked(l); !slices.Equal(got, e.linked) {
			t.Fatal(kind, conf, key, items, "has", got, "linked at", l, "not", e.linked)
		}
		here, into, is := ref(root(l)), val(link(0, 4)), false
		if e.behind >= 0 {
			here = next(items[e.behind].who(), l)
		}
		if e.ahead < len(items) {
			into, is = to(items[e.ahead].who(), 4), items[e.ahead].key == key
		}
		if e.cut {
			into.Word += 2
		}
		if f.At(l) != here || f.Into(l) != into || f.FoundAt(l) != is || b.w.World.Load(here) != into {
			t.Fatal(kind, conf, key, items, "tells of the level", l, f.At(l), f.Into(l), f.FoundAt(l), "not", here, into, is)
		}
	}
	who, out := soul.Who{}, val(0)
	if i := all[0].ahead; i < len(items) {
		who, out = items[i].who(), links[0][i]
	}
	if f.Found() != f.FoundAt(0) || f.Who() != who || f.Out() != out {
		t.Fatal(kind, conf, key, items, "tells", f.Found(), f.Who(), f.Out(), "not", who, out)
	}
}

// shapes are all ways in which a slot can stand in a skip list of that height: at how many levels, and from which one on marked.
func shapes(height int) []item {
	var all []item
	for top := 1; top <= height; top++ {
		for from := range top + 1 {
			all = append(all, item{top: top, from: from})
		}
	}
	return all
}

// allKeys finds each key below, at and above those of a row of slots; twice: who is marked at all levels has the key of the one behind it.
func allKeys(t *testing.T, kind string, height int, twice bool, row []item) {
	items, key := slices.Clone(row), uint64(1)
	for i := range items {
		items[i].slot, items[i].key = []int{3, 1, 5, 2, 4}[i], key
		if !twice || items[i].from > 0 {
			key += 2
		}
	}
	for k := range key + 1 {
		found(t, kind, skip(5, height), k, items...)
	}
}

// rows calls do with all rows of n of these.
func rows(n int, of []item, do func(row []item)) {
	if n == 0 {
		do(nil)
		return
	}
	rows(n-1, of, func(row []item) {
		for _, it := range of {
			do(append(slices.Clone(row), it))
		}
	})
}

// P18.1, P18.2: all skip lists of up to four slots and two levels, up to three slots and three levels, up to two slots and four levels, and lists of five slots, each slot at as many levels as there can be and marked from each on.
func TestAllTowers(t *testing.T) {
	for height, most := range []int{0, 5, 4, 3, 2} {
		if height == 0 {
			continue
		}
		for n := range most + 1 {
			i := 0
			rows(n, shapes(height), func(row []item) {
				for _, twice := range []bool{false, true} {
					// Each row goes through some worlds, all of them if there are few rows.
					for range 4 / max(1, n-1) {
						i++
						allKeys(t, kinds[i%4], height, twice, row)
					}
				}
			})
		}
	}
}

// P18.1, P18.2: long skip lists of many heights, over all slots of a structure, and about the ends of what a slot can be, with as many marked as may be, at any keys.
func TestLongTowers(t *testing.T) {
	x := numbers(18)
	for _, n := range []int{1, 2, 8, 40, 200} {
		for _, kind := range kinds {
			for _, height := range []int{1, 2, 3, 5, 16} {
				for _, out := range []int{0, 1, 3, 9, 10} {
					conf := skip(n, height)
					items, keys := anyItems(&x, n, height, out)
					if x.below(3) == 0 {
						conf.Slots = maxSlots
						for i := range items {
							items[i].slot = maxSlots - items[i].slot + 1
						}
					}
					for range 4 {
						found(t, kind, conf, one(&x, keys), items...)
					}
				}
			}
		}
	}
}

// anyItems are n slots in any order, with rising keys, at any levels, so many of ten of them marked from any level on; and keys about theirs.
func anyItems(x *numbers, n, height, out int) ([]item, []uint64) {
	slots := make([]int, n)
	for i := range slots {
		j := x.below(i + 1)
		slots[i], slots[j] = slots[j], i+1
	}
	var items []item
	keys := []uint64{0, math.MaxUint64}
	// The last ones stand at the end of a word, the first one at its other end.
	key, tops := uint64(0), 1+x.below(2)
	for i, slot := range slots {
		it := item{slot: slot, key: key, top: 1}
		for it.top < height && x.below(tops+1) > 0 {
			it.top++
		}
		it.from = it.top
		if x.below(10) < out {
			it.from = x.below(it.top + 1)
		}
		items = append(items, it)
		keys = append(keys, key-1, key, key+1)
		if key++; i == n/2 {
			key = math.MaxUint64 - uint64(n-i-2)
		}
	}
	return items, keys
}

// turn is something that others do to the words between two steps.
type turn func(b *bench, th *thread)

// turns are some of them: the epoch goes on or back or can't be, links lead elsewhere, are marked or of another version, at the level where the Find is, below it and above, keys are others, slots are somebody else.
func turns() []turn {
	store := func(at func(x *teller) world.At, word uint64, id int) turn {
		return func(b *bench, th *thread) { b.w.World.Store(at(th.tell), world.Val{Word: word, Id: id}) }
	}
	epoch := func(*teller) world.At { return ref(epochCell) }
	first := func(level int) func(*teller) world.At {
		return func(x *teller) world.At { return ref(root(max(0, x.level+level))) }
	}
	own := func(n int) func(*teller) world.At {
		return func(x *teller) world.At { return next(x.last(), x.level+n) }
	}
	here := func(level int) func(*teller) world.At {
		return func(x *teller) world.At {
			a := x.from()
			a.Place.Part = max(a.Place.Part+level, 0)
			return a
		}
	}
	key := func(x *teller) world.At { return by(x.last(), keyPart) }
	return []turn{
		store(epoch, 6, 0), store(epoch, 7, 0), store(epoch, 1<<63+6, 0),
		store(first(0), link(2, 6), 2), store(first(-1), link(3, 6)|mark, 3), store(first(1), link(0, 6), 0), store(first(-1), link(2, 6), 2),
		store(own(0), link(2, 6), 2), store(own(0), link(2, 6)|mark, 2), store(own(-1), link(0, 5)|mark, 4), store(own(0), link(0, 5)|mark, 4), store(own(-1), link(2, 5), 4),
		store(here(0), link(3, 9), 3), store(here(0), link(2, 4)|mark, 2), store(here(-1), link(2, 4)|mark, 2), store(here(-1), link(2, 7), 2), store(here(1), link(2, 4)|mark, 2),
		store(key, 0, 0), store(key, 4, 0), store(key, math.MaxUint64, 0),
		func(b *bench, th *thread) { b.w.World.Born(max(1, th.tell.last().Slot)) },
		func(b *bench, th *thread) { b.w.World.Born(2) },
	}
}

// last is whom the lane that goes on came to, and from where its link is; ahead of the first one nobody, and a root.
func (x *teller) last() soul.Who {
	if x.levels == nil {
		return soul.Who{}
	}
	return lead(x.now().w)
}
func (x *teller) from() world.At {
	if x.levels == nil {
		return ref(root(0))
	}
	return x.now().at
}

// P18.1: a Find over a short skip list, with each two turns between each two steps: behind each step what the chapter says.
func TestTurns(t *testing.T) {
	seen, all, n := map[string]int{}, turns(), 0
	for i := range 45 {
		for j := i; j < min(i+4, 45); j++ {
			for _, one := range all {
				for _, two := range all {
					n++
					turned(t, kinds[n%4], seen, func(n int, b *bench, th *thread) {
						if n == i {
							one(b, th)
						}
						if n == j {
							two(b, th)
						}
					})
				}
			}
		}
	}
	wanted(t, seen, 3)
}

// turned goes down a short skip list, while others do something ahead of each step.
func turned(t *testing.T, kind string, seen map[string]int, others func(n int, b *bench, th *thread)) {
	b, th := at(t, kind, skip(5, 3), 6)
	b.lay(4, item{slot: 3, key: 1, top: 3, from: 0}, item{slot: 4, key: 2, top: 3, from: 3}, item{slot: 5, key: 3, top: 2, from: 1}, item{slot: 1, key: 4, top: 1, from: 1}, item{slot: 2, key: 5, top: 3, from: 3})
	b.find(th, 4)
	for n := range 100 {
		others(n, b, th)
		if b.step(th) == core.Done {
			break
		}
	}
	b.count(seen)
}

// wanted holds that each row of each of so many levels went on to all that it can.
func wanted(t *testing.T, seen map[string]int, height int) {
	t.Helper()
	for l := range height {
		at := strconv.Itoa(l)
		// Behind a lane's end.
		end := "Done"
		if l > 0 {
			end = "w " + strconv.Itoa(l-1)
		}
		came(t, seen,
			"w "+at+" w? "+at, "w? "+at+" x "+at, "w? "+at+" c", "w? "+at+" "+end, "x "+at+" x? "+at, "x? "+at+" cut "+at, "x? "+at+" k "+at, "x? "+at+" c",
			"cut "+at+" x "+at, "cut "+at+" "+end, "cut "+at+" c", "k "+at+" k? "+at, "k? "+at+" x "+at, "k? "+at+" c", "k? "+at+" "+end,
			"invalid w? "+at, "invalid x? "+at, "invalid k? "+at, "marked w? "+at, "failed cut "+at, "found "+at,
		)
	}
	came(t, seen, "c w "+strconv.Itoa(height-1), "down a root", "down a slot", "stale x", "stale k", "stale w")
}

// P18.1: Finds of two threads, for any keys, over any skip lists, marked at any levels, while others turn any words as often as they like: behind each step what the chapter says.
func TestAnywhere(t *testing.T) {
	x := numbers(16)
	seen := map[string]int{}
	for _, kind := range kinds {
		for _, conf := range []api.Config{skip(6, 1), skip(6, 2), skip(6, 4), skip(1, 16), skip(maxSlots, 4)} {
			for range 800 {
				anywhere(t, &x, kind, conf, seen)
			}
		}
	}
	wanted(t, seen, 4)
}

// anywhere is a bench of two threads, whose steps are taken in turn in any order.
func anywhere(t *testing.T, x *numbers, kind string, conf api.Config, seen map[string]int) {
	b := benchOf(t, kind, conf, 2)
	items, _ := anyItems(x, x.below(7), conf.Height, x.below(11))
	for i := range items {
		items[i].key = uint64(x.below(3) + i)
	}
	items, _ = b.lay(1, items...)
	for _, it := range items {
		// Marks at lower levels alone: no skip list ever comes to that, and no step minds it.
		if l := x.below(it.top); x.below(4) == 0 {
			word := b.w.World.Load(next(it.who(), l))
			word.Word ^= mark
			b.w.World.Store(next(it.who(), l), word)
		}
	}
	often := 1 + x.below(12)
	for range 80 {
		th := one(x, b.threads)
		if th.tell == nil {
			b.find(th, uint64(x.below(9))-uint64(x.below(8)/7))
			continue
		}
		b.step(th)
		if x.below(often) == 0 {
			b.any(x, th)
		}
	}
	b.count(seen)
}

// any is any turn of any word, those most of all that the thread comes to.
func (b *bench) any(x *numbers, th *thread) {
	if th.tell == nil || th.tell.levels == nil || x.below(5) == 0 {
		b.w.World.Born(1 + x.below(6))
		return
	}
	level := x.below(b.conf.Height)
	if x.below(2) == 0 {
		level = th.tell.level
	}
	someone := soul.Who{Slot: 1 + x.below(6), Id: x.below(9)}
	leading := world.Val{Word: link(x.below(7), x.below(3)) | uint64(x.below(5)/4)<<63, Id: x.below(9)}
	switch x.below(8) {
	case 0:
		b.w.put(ref(epochCell), one(x, []uint64{0, 1, 2, 3, maxEpoch, maxEpoch + 1, 1<<63 + 1, math.MaxUint64}))
	case 1:
		b.w.put(ref(epochCell), uint64(th.epoch))
	case 2:
		b.w.World.Store(ref(root(level)), leading)
	case 3:
		b.w.World.Store(th.tell.from(), leading)
	case 4:
		b.w.World.Store(next(th.tell.last(), level), leading)
	case 5:
		b.w.World.Store(next(someone, level), leading)
	case 6:
		b.w.put(by(th.tell.last(), keyPart), th.tell.key+uint64(x.below(3))-1)
	default:
		b.w.put(by(someone, keyPart), uint64(x.below(9)))
	}
}
