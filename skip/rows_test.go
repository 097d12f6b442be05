package skip_test

import (
	"math"
	"slices"
	"strconv"
	"testing"

	"revenant/api"
	"revenant/queue"
	"revenant/soul"
	"revenant/world"
)

// laid is a skip list as the promises tell it: the items, and of each level those that are linked there, in order.
type laid struct {
	items  []item
	linked [][]int // places among the items
	out    map[int]bool
}

// laidOf is one as it is laid.
func laidOf(items []item, height int) *laid {
	s := &laid{items: items, linked: make([][]int, height), out: map[int]bool{}}
	for l := range height {
		for i, it := range items {
			if l < it.top {
				s.linked[l] = append(s.linked[l], i)
			}
		}
	}
	return s
}

// isOut is whether an item is marked at a level.
func (s *laid) isOut(i, level int) bool { return s.out[i] || s.items[i].isOut(level) }

// find cuts off, at each level, what is marked as far as a Find comes, and answers behind which item it ends at each, -1 for the root, and the one that has the key, -1 for none.
func (s *laid) find(key uint64) (behind []int, found int) {
	behind, last := make([]int, len(s.linked)), -1
	for l := len(s.linked) - 1; l >= 0; l-- {
		found = -1
		var kept []int
		ended := false
		for _, i := range s.linked[l] {
			switch {
			case i <= last || ended:
			case s.isOut(i, l):
				continue
			case s.items[i].key < key:
				last = i
			default:
				ended = true
				if s.items[i].key == key {
					found = i
				}
			}
			kept = append(kept, i)
		}
		s.linked[l], behind[l] = kept, last
	}
	return behind, found
}

// after is what an op alone leaves of it: what is answered, and whom it retires, -1 for nobody; fresh is the item that it comes to.
func (s *laid) after(o api.Op, fresh item) (api.Answer, int) {
	behind, found := s.find(o.Key)
	switch {
	case o.Kind == api.Has:
		return api.Answer{Done: found >= 0}, -1
	case o.Kind == api.Delete && found >= 0:
		s.out[found] = true
		if s.items[found].state == 0 {
			// Who put it in is to retire it.
			return yes, -1
		}
		s.find(o.Key)
		return yes, found
	case o.Kind == api.Delete || found >= 0:
		return no, -1
	}
	s.items = append(s.items, fresh)
	for l := range o.Level {
		s.linked[l] = slices.Insert(s.linked[l], slices.Index(s.linked[l], behind[l])+1, len(s.items)-1)
	}
	return yes, -1
}

// slots are those that are linked at each level.
func (s *laid) slots() [][]int {
	all := make([][]int, len(s.linked))
	for l, row := range s.linked {
		for _, i := range row {
			all[l] = append(all[l], s.items[i].slot)
		}
	}
	return all
}

// asked lays a skip list whose other slots are fresh, and holds an op that goes on alone against the promises, with a slot held and with none.
func asked(t *testing.T, kind string, conf api.Config, o api.Op, items ...item) {
	t.Helper()
	fresh := conf.Slots
	for _, holds := range []bool{false, true} {
		b, th := at(t, kind, conf, 6)
		b.put(ref(freshCell), uint64(fresh-1))
		items, _ := b.lay(4, items...)
		s := laidOf(items, conf.Height)
		answer, out := s.after(o, item{slot: fresh})
		keys := b.keys(0)
		if holds {
			b.born(th, fresh, o.Key)
		}
		b.ask(th, o, answer)
		b.levels(s.slots()...)
		own := 0
		if out >= 0 {
			own++
			if got := th.own[0]; got != (queue.Entry{Slot: items[out].slot, Retired: 6, Id: items[out].id}) || b.isLinked(got.Slot) {
				t.Fatal(kind, o, items, "retires", got)
			}
		}
		if holds && o.Kind == api.Insert && !answer.Done {
			own++
		}
		if len(th.own) != own {
			t.Fatal(kind, o, items, "has", th.own)
		}
		i, there := slices.BinarySearch(keys, o.Key)
		switch {
		case o.Kind == api.Insert && !there:
			keys = slices.Insert(keys, i, o.Key)
		case o.Kind == api.Delete && there:
			keys = slices.Delete(keys, i, i+1)
		}
		b.has(keys...)
		b.clean()
	}
}

// shapes are all ways in which a slot can stand in a skip list of that height: at how many levels, and from which one on marked.
func shapes(height int) []item {
	var all []item
	for top := 1; top <= height; top++ {
		for from := range top + 1 {
			all = append(all, item{top: top, from: from})
		}
	}
	return all
}

// rows calls do with all rows of n of these.
func rows(n int, of []item, do func(row []item)) {
	if n == 0 {
		do(nil)
		return
	}
	rows(n-1, of, func(row []item) {
		for _, it := range of {
			do(append(slices.Clone(row), it))
		}
	})
}

// ops are all ops of a key.
func ops(key uint64, height int) []api.Op {
	all := []api.Op{has(key), remove(key)}
	for level := 1; level <= height; level++ {
		all = append(all, insert(key, level))
	}
	return all
}

// P19.1 to P19.3: all skip lists of up to four slots of one level, three of two levels, and two of three and four, each slot at as many levels as there can be and marked from each on, still raised or not, and marked ones with the key of the one behind them: each op of each key below, at and above those that are there.
func TestAllSkips(t *testing.T) {
	n := 0
	for height, most := range []int{0, 4, 3, 2, 2} {
		for slots := range most + 1 {
			if height == 0 {
				continue
			}
			rows(slots, shapes(height), func(row []item) {
				for _, twice := range []bool{false, true} {
					items, key := slices.Clone(row), uint64(1)
					for i := range items {
						items[i].slot, items[i].key, items[i].state = []int{3, 1, 4, 2}[i], key, uint64((n+i)%3)
						if !twice || items[i].from > 0 {
							key += 2
						}
					}
					for k := range key + 1 {
						for _, o := range ops(k, height) {
							n++
							asked(t, kinds[n%4], tall(5, height), o, items...)
						}
					}
				}
			})
		}
	}
}

// P19.1 to P19.3: long skip lists of many heights, with as many marked as may be, of any keys, the lowest and the highest too.
func TestLongSkips(t *testing.T) {
	x := numbers(19)
	for _, n := range []int{1, 2, 8, 40, 200} {
		for _, kind := range kinds {
			for _, height := range []int{1, 2, 3, 5, 16} {
				for _, out := range []int{0, 1, 5, 9, 10} {
					items, keys := anyItems(&x, n, height, out)
					for range 4 {
						asked(t, kind, tall(n+1, height), one(&x, ops(one(&x, keys), height)), items...)
					}
				}
			}
		}
	}
}

// anyItems are n slots in any order, with rising keys, at any levels, so many of ten of them marked from any level on; and keys about theirs.
func anyItems(x *numbers, n, height, out int) ([]item, []uint64) {
	slots := make([]int, n)
	for i := range slots {
		j := x.below(i + 1)
		slots[i], slots[j] = slots[j], i+1
	}
	var items []item
	keys := []uint64{0, math.MaxUint64}
	// The last ones stand at the end of a word, the first one at its other end.
	key, tops := uint64(0), 1+x.below(2)
	for i, slot := range slots {
		it := item{slot: slot, key: key, top: 1, state: uint64(x.below(3))}
		for it.top < height && x.below(tops+1) > 0 {
			it.top++
		}
		it.from = it.top
		if x.below(10) < out {
			it.from = x.below(it.top + 1)
		}
		items = append(items, it)
		keys = append(keys, key-1, key, key+1)
		if key++; i == n/2 {
			key = math.MaxUint64 - uint64(n-i-2)
		}
	}
	return items, keys
}

// turn is something that others do to the words between two steps.
type turn func(b *bench, th *thread)

// last is whom the lane that goes on came to, and from where its link is; ahead of the first one nobody, and a root.
func (x *teller) last() soul.Who {
	if x.levels == nil {
		return soul.Who{}
	}
	return lead(x.now().w)
}
func (x *teller) from() world.At {
	if x.levels == nil {
		return ref(root(0))
	}
	return x.now().at
}

// ended is the link at which the last Find ended at the level at which n or c is next.
func (x *teller) ended() world.At {
	if x.levels == nil {
		return ref(root(0))
	}
	return x.levels[x.level%len(x.levels)].at
}

// turns are some of them: the epoch goes on or back or can't be, links lead elsewhere, are marked or of another version, where a Find is and where the op is, States, Tops and keys are others, slots are somebody else, or were taken by somebody.
func turns() []turn {
	store := func(at func(x *teller) world.At, word uint64, id int) turn {
		return func(b *bench, th *thread) { b.w.World.Store(at(th.tell), world.Val{Word: word, Id: id}) }
	}
	cell := func(p api.Place) func(*teller) world.At { return func(*teller) world.At { return ref(p) } }
	own := func(n int) func(*teller) world.At {
		return func(x *teller) world.At { return by(x.mine, n) }
	}
	mine := func(x *teller) world.At { return next(x.mine, x.level) }
	met := func(x *teller) world.At { return next(x.last(), x.lane) }
	key := func(x *teller) world.At { return by(x.last(), keyPart) }
	return []turn{
		store(cell(epochCell), 6, 0), store(cell(epochCell), 7, 0), store(cell(epochCell), 1<<63+6, 0),
		store((*teller).from, link(3, 9), 3), store((*teller).from, link(2, 4)|mark, 2), store(met, link(0, 5)|mark, 4), store(met, link(2, 6), 2),
		store((*teller).ended, link(1, 5), 1), store((*teller).ended, link(3, 4)|mark, 3), store(cell(root(0)), link(3, 6), 3), store(cell(root(1)), link(3, 6), 3),
		store(mine, link(0, 6)|mark, 0), store(mine, link(1, 6), 1), store(own(nextPart), link(0, 5)|mark, 0), store(own(nextPart+1), link(0, 6), 0),
		store(own(statePart), 2, 0), store(own(statePart), 1, 0), store(own(topPart), 1, 0), store(own(topPart), 2, 0), store(own(topPart), 4, 0),
		store(key, 0, 0), store(key, 3, 0), store(key, math.MaxUint64, 0),
		store(cell(freshCell), 9, 0), store(cell(poolCell), link(1, 3), 1), store(cell(poolCell), link(2, maxEpoch), 2), store(cell(poolCell), 0, 0),
		func(b *bench, th *thread) { b.w.World.Born(max(1, th.tell.last().Slot)) },
		func(b *bench, th *thread) { b.w.World.Born(max(1, th.tell.mine.Slot)) },
	}
}

// turned goes through an op over a short skip list, while others do something ahead of each step, from the row on.
func turned(t *testing.T, kind string, o api.Op, has int, row string, seen map[string]int, others func(n int, b *bench, th *thread)) {
	b, th := at(t, kind, limited(5, 3, 7), 6)
	b.put(ref(freshCell), 4)
	b.lay(4, item{slot: 4, key: 1, top: 3, from: 3, state: 1}, item{slot: 1, key: 2, top: 2, from: 0, state: 1}, item{slot: 3, key: 3, top: 3, from: 2 + has%2, state: uint64(has % 2)})
	switch has {
	case 1:
		b.hold(th, soul.Who{Slot: 2, Id: b.w.World.Born(2)})
	case 2, 3, 4:
		b.push(th, queue.Entry{Slot: 2, Retired: 3 + has})
	case 5:
		b.put(ref(freshCell), 5)
		b.put(ref(poolCell), link(2, 3))
	}
	b.begin(th, o)
	for th.tell != nil && row != "" && th.tell.row != row {
		b.step(th)
	}
	for n := 0; n < 150 && th.tell != nil; n++ {
		others(n, b, th)
		b.step(th)
	}
	b.count(seen)
}

// P19.1: each op, with a slot held, one of its own, a fresh one, and one of the pool, over a short skip list, with each turn ahead of each step, and with each two turns from where its table begins: behind each step what the tables say.
func TestTurns(t *testing.T) {
	seen, all, x := map[string]int{}, turns(), numbers(20)
	for _, o := range []api.Op{insert(2, 3), insert(2, 2), insert(4, 1), remove(3), remove(1), insert(3, 2), has(3)} {
		for i := range 110 {
			for _, one := range all {
				turned(t, kinds[x.below(4)], o, x.below(6), "", seen, func(n int, b *bench, th *thread) {
					if n == i {
						one(b, th)
					}
				})
			}
		}
	}
	// In their order, so that each run of the test draws the same numbers.
	for _, from := range []struct {
		row string
		ops []api.Op
	}{{"s", []api.Op{insert(2, 3), insert(4, 2), insert(0, 3)}}, {"e", []api.Op{remove(3), remove(1)}}} {
		for _, o := range from.ops {
			for i := range 14 {
				for _, one := range all {
					for _, two := range all {
						j := i + x.below(4)
						turned(t, kinds[x.below(4)], o, x.below(2), from.row, seen, func(n int, b *bench, th *thread) {
							if n == i {
								one(b, th)
							}
							if n == j {
								two(b, th)
							}
						})
					}
				}
			}
		}
	}
	wanted(t, seen)
}

// wanted holds that each row went on to all that it can.
func wanted(t *testing.T, seen map[string]int) {
	t.Helper()
	for l := range 3 {
		at := strconv.Itoa(l)
		came(t, seen,
			"w "+at+", w? "+at, "w? "+at+", x "+at, "w? "+at+", c", "x "+at+", x? "+at, "x? "+at+", cut "+at, "x? "+at+", k "+at, "x? "+at+", c",
			"cut "+at+", x "+at, "cut "+at+", c", "k "+at+", k? "+at, "k? "+at+", x "+at, "k? "+at+", c", "invalid w? "+at, "invalid x? "+at, "invalid k? "+at, "failed cut "+at,
		)
	}
	for l := 1; l < 3; l++ {
		at := strconv.Itoa(l)
		came(t, seen,
			"u "+at+", c", "v "+at+", z", "v "+at+", u "+at, "v "+at+", y2 "+at, "y2 "+at+", u "+at, "y2 "+at+", z",
			"f "+at+", f? "+at, "f? "+at+", f2 "+at, "f? "+at+", c", "f2 "+at+", f "+at, "invalid f? "+at, "failed u "+at, "failed y2 "+at, "failed f2 "+at,
		)
	}
	came(t, seen,
		"w? 0, Done", "w? 0, s 0", "w? 0, f1", "w? 0, r1", "w? 0, z", "k? 0, Done", "k? 0, s 0", "k? 0, e", "k? 0, f1", "k? 0, a1", "k? 0, b", "k? 0, r1", "k? 0, v 1", "k? 0, v 2", "k? 0, z", "cut 1, w 0", "cut 0, Done",
		"a1, c", "f1, b", "f1, p1", "p1, p2", "p1, Done", "p2, p3", "p3, p4", "p4, b", "p4, p1", "b, b retire", "b retire, b key", "b key, b top", "b top, b state", "b state, c",
		"s 0, s 1", "s 1, s 2", "s 2, t", "s 0, t", "t, u 1", "t, z", "t, c", "u 1, u 2", "u 1, v 2", "u 1, z", "u 2, z", "z, Done", "z, c",
		"e, e?", "e?, f 2", "e?, f 1", "e?, g", "e?, c", "f? 2, f 1", "f? 1, g", "f2 2, f 1", "f2 1, g", "g, g?", "g?, g2", "g?, c", "g2, g", "g2, h", "h, Done", "h, c", "r1, r2", "r2, Done",
		"failed t", "failed z", "failed g2", "failed h", "failed a1", "failed p4", "invalid e?", "invalid g?", "marked f", "marked g", "no Top", "hides", "is n", "isn't n",
		"drop", "full", "late pool", "stale w", "stale x", "stale k", "stale e", "stale f", "stale g", "stale v",
	)
}

// P19.1: ops of two threads over any skip lists, for any keys, while others turn any words as often as they like: behind each step what the tables say.
func TestAnywhere(t *testing.T) {
	x := numbers(16)
	seen := map[string]int{}
	for _, kind := range kinds {
		for _, conf := range []api.Config{tall(6, 3), limited(6, 3, 3), tall(6, 1), limited(7, 2, 2), tall(maxSlots, 16)} {
			for range 1500 {
				anywhere(t, &x, kind, conf, seen)
			}
		}
	}
	wanted(t, seen)
}

// anywhere is a bench of two threads, whose steps are taken in turn in any order.
func anywhere(t *testing.T, x *numbers, kind string, conf api.Config, seen map[string]int) {
	b := benchOf(t, kind, conf, 2)
	items, _ := anyItems(x, x.below(7), conf.Height, x.below(11))
	for i := range items {
		items[i].key = uint64(x.below(4) + i)
	}
	items, _ = b.lay(1, items...)
	for _, it := range items {
		// Marks at lower levels alone: no skip list ever comes to that, and no step minds it.
		if l := x.below(it.top); x.below(6) == 0 {
			word := b.w.World.Load(next(it.who(), l))
			word.Word ^= mark
			b.w.World.Store(next(it.who(), l), word)
		}
	}
	b.put(ref(freshCell), uint64(x.below(8)))
	often := 1 + x.below(12)
	for range 150 {
		th := one(x, b.threads)
		if th.tell == nil {
			b.beginAny(x, th)
			continue
		}
		b.step(th)
		if x.below(often) == 0 {
			b.turnAny(x, th)
		}
	}
	b.count(seen)
}

// beginAny is any op of a thread.
func (b *bench) beginAny(x *numbers, th *thread) {
	who := soul.Who{Slot: 1 + x.below(6), Id: x.below(9)}
	if th.held.Slot == 0 && x.below(3) == 0 {
		b.hold(th, who)
	}
	if th.held.Slot == 0 && x.below(3) == 0 {
		b.push(th, queue.Entry{Slot: who.Slot, Retired: x.below(4), Id: who.Id})
	}
	key := uint64(x.below(8)) - uint64(x.below(8)/7)
	b.begin(th, one(x, append(ops(key, b.conf.Height), remove(key))))
}

// turnAny is any turn of any word, those most of all that the thread comes to.
func (b *bench) turnAny(x *numbers, th *thread) {
	if th.tell == nil || x.below(6) == 0 {
		b.w.World.Born(1 + x.below(6))
		return
	}
	mine, level := th.tell.mine, x.below(b.conf.Height)
	if x.below(2) == 0 {
		level = th.tell.level
	}
	someone := soul.Who{Slot: 1 + x.below(6), Id: x.below(9)}
	leading := world.Val{Word: link(x.below(7), x.below(3)) | uint64(x.below(5)/4)<<63, Id: x.below(9)}
	switch x.below(17) {
	case 0:
		b.put(ref(epochCell), one(x, []uint64{0, 1, 2, 3, maxEpoch, maxEpoch + 1, 1<<63 + 1, math.MaxUint64}))
	case 1:
		b.put(ref(epochCell), uint64(th.epoch))
	case 2:
		b.w.World.Store(ref(root(level)), leading)
	case 3:
		b.w.World.Store(th.tell.from(), leading)
	case 4:
		b.w.World.Store(next(th.tell.last(), level), leading)
	case 5:
		b.w.World.Store(next(someone, level), leading)
	case 6, 7:
		b.w.World.Store(next(mine, level), leading)
	case 8:
		b.w.World.Store(th.tell.ended(), leading)
	case 9:
		b.put(by(th.tell.last(), keyPart), th.tell.op.Key+uint64(x.below(3))-1)
	case 10:
		b.put(by(someone, keyPart), uint64(x.below(9)))
	case 11:
		b.put(by(mine, statePart), one(x, []uint64{0, 0, 1, 2, math.MaxUint64}))
	case 12:
		b.put(by(mine, topPart), one(x, []uint64{0, 1, 2, 3, 4, 16, 17, math.MaxUint64, 1<<63 + 2, 1<<32 + 2}))
	case 13:
		b.put(ref(freshCell), uint64(x.below(9)))
	case 14:
		b.w.World.Store(ref(poolCell), world.Val{Word: link(x.below(7), x.below(4)), Id: x.below(9)})
	case 15:
		b.w.World.Store(by(someone, chainPart), leading)
	default:
		b.put(by(someone, retirePart), one(x, []uint64{0, 1, 2, 3, 1 << 63}))
	}
}
