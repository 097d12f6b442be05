package table_test

import (
	"math"
	"slices"
	"testing"

	"revenant/api"
	"revenant/queue"
	"revenant/soul"
	"revenant/world"
)

// after is what an op alone leaves of a bucket: what is answered, and which slots are linked; fresh is the one that it comes to.
func after(items []item, o api.Op, fresh int) (api.Answer, []int) {
	end := len(items)
	var linked []int
	for i, it := range items {
		// What is marked is cut off as far as the search comes.
		if end < i || !it.out {
			linked = append(linked, it.slot)
		}
		if end > i && !it.out && it.key >= o.Key {
			end = i
		}
	}
	if end == len(items) || items[end].key != o.Key {
		answer := api.Answer{Done: o.Kind == api.Add}
		if o.Kind == api.Get || o.Kind == api.Remove {
			return answer, linked
		}
		if end == len(items) {
			return answer, append(linked, fresh)
		}
		return answer, slices.Insert(linked, slices.Index(linked, items[end].slot), fresh)
	}
	i, old := slices.Index(linked, items[end].slot), items[end].val
	switch o.Kind {
	case api.Put:
		linked[i] = fresh
	case api.Remove:
		linked = slices.Delete(linked, i, i+1)
	case api.Add:
		return kept(old), linked
	}
	return had(old), linked
}

// then is what an op alone leaves of a map's pairs.
func then(pairs []pair, o api.Op) []pair {
	i, there := slices.BinarySearchFunc(pairs, pair{key: o.Key}, byKey)
	pairs = slices.Clone(pairs)
	switch {
	case o.Kind == api.Put && there:
		pairs[i].val = o.Val
	case (o.Kind == api.Put || o.Kind == api.Add) && !there:
		return slices.Insert(pairs, i, pair{o.Key, o.Val})
	case o.Kind == api.Remove && there:
		return slices.Delete(pairs, i, i+1)
	}
	return pairs
}

// asked lays a bucket whose other slots are fresh, beside another one, and holds an op that goes on alone against the promises, with a slot held and with none.
func asked(t *testing.T, kind string, slots, buckets int, o api.Op, items ...item) {
	t.Helper()
	root := bucketOf(buckets, o.Key)
	for _, holds := range []bool{false, true} {
		b, th := at(t, kind, hash(slots+1, buckets), 6)
		b.put(ref(freshCell), uint64(slots-1))
		laid, _ := b.lay(root, 4, items...)
		if other := (root + 1) % buckets; other != root {
			b.lay(other, 4, item{slot: slots + 1, key: keysOf(buckets, other, 1, 3)[0], val: 77})
		}
		answer, linked := after(laid, o, slots)
		pairs := then(b.pairs(), o)
		if holds {
			b.born(th, slots, o.Key, o.Val)
		}
		b.ask(th, o, answer)
		if got := b.linked(root); !slices.Equal(got, linked) {
			t.Fatal(kind, o, items, "has", got, "linked, not", linked)
		}
		b.has(pairs...)
		b.clean()
	}
}

// P17.1 to P17.3: all buckets of up to four slots, with each set of them marked, and of marked ones with the key of the one behind them: each op of each key below, at and above those that are there.
func TestAllBuckets(t *testing.T) {
	order := []int{3, 1, 4, 2}
	for i, kind := range append(kinds, kinds...) {
		buckets := 1 + i/4*2
		keys := keysOf(buckets, (i+1)%buckets, 10, 0)
		for n := range 5 {
			for marks := range 1 << n {
				for _, twice := range []bool{false, true} {
					var items []item
					at := 1
					for j, slot := range order[:n] {
						items = append(items, item{slot: slot, key: keys[at], val: uint64(10 + j), out: marks>>j&1 == 1})
						if !twice || !items[j].out {
							at += 2
						}
					}
					for _, key := range keys[:2*n+2] {
						for _, o := range []api.Op{get(key), put(key, 9), add(key, 9), remove(key)} {
							asked(t, kind, 5, buckets, o, items...)
						}
					}
				}
			}
		}
	}
}

// values are values of every sort.
var values = []uint64{0, 1, 5, mark, link(1, 4), link(2, 6) | mark, math.MaxInt64, math.MaxUint64}

// P17.1 to P17.3: buckets of many lengths, with as many marked as may be, of any keys, the lowest and the highest too, and any values.
func TestLongBuckets(t *testing.T) {
	x := numbers(17)
	for _, n := range []int{1, 2, 8, 40, 300} {
		for _, kind := range kinds {
			for _, part := range []int{0, 1, 5, 9, 10} {
				items, keys := anyItems(&x, n, part)
				for range 6 {
					o := api.Op{Kind: api.Put + x.below(4), Key: one(&x, keys)}
					if o.Kind == api.Put || o.Kind == api.Add {
						o.Val = one(&x, values)
					}
					asked(t, kind, n+1, 1, o, items...)
				}
			}
		}
	}
}

// anyItems are n slots in any order, with rising keys, so many of ten of them marked; and keys about theirs.
func anyItems(x *numbers, n, part int) ([]item, []uint64) {
	slots := make([]int, n)
	for i := range slots {
		j := x.below(i + 1)
		slots[i], slots[j] = slots[j], i+1
	}
	var items []item
	keys := []uint64{0, math.MaxUint64}
	// The last ones stand at the end of a word, the first one at its other end.
	key := uint64(0)
	for i, slot := range slots {
		items = append(items, item{slot: slot, key: key, val: one(x, values), out: x.below(10) < part})
		keys = append(keys, key-1, key, key+1)
		if key++; i == n/2 {
			key = math.MaxUint64 - uint64(n-i-2)
		}
	}
	return items, keys
}

// turn is something that others do to the words between two steps.
type turn func(b *bench, th *thread)

// turns are some of them: the epoch goes on or back or can't be, links lead elsewhere, are marked or of another version, keys and values are others, slots are somebody else, or were taken by somebody.
func turns() []turn {
	store := func(at func(th *thread) world.At, word uint64, id int) turn {
		return func(b *bench, th *thread) { b.w.World.Store(at(th), world.Val{Word: word, Id: id}) }
	}
	cell := func(p api.Place) func(*thread) world.At { return func(*thread) world.At { return ref(p) } }
	own := func(n int) func(th *thread) world.At {
		return func(th *thread) world.At { return by(lead(th.tell.w), n) }
	}
	here := func(th *thread) world.At { return th.tell.at }
	ended := func(th *thread) world.At { return th.tell.spot.at }
	root := rootCell(0)
	return []turn{
		store(cell(epochCell), 6, 0), store(cell(epochCell), 7, 0), store(cell(epochCell), 1<<63+6, 0),
		store(cell(root), link(2, 6), 2), store(cell(root), link(3, 6)|mark, 3), store(cell(root), link(0, 9), 0),
		store(own(nextPart), link(2, 6), 2), store(own(nextPart), link(1, 6)|mark, 1), store(own(nextPart), link(0, 5), 0), store(own(nextPart), link(0, 5)|mark, 0),
		store(here, link(3, 9), 3), store(ended, link(1, 4), 1), store(ended, link(3, 4)|mark, 1),
		store(own(keyPart), 0, 0), store(own(keyPart), 3, 0), store(own(keyPart), math.MaxUint64, 0), store(own(valPart), 99, 0),
		store(cell(freshCell), 9, 0), store(cell(poolCell), link(1, 3), 1), store(cell(poolCell), link(2, maxEpoch), 2), store(cell(poolCell), 0, 0),
		func(b *bench, th *thread) { b.w.World.Born(max(1, slotOf(th.tell.w.Word))) },
	}
}

// P17.1: each op, with a slot held, one of its own, a fresh one, and one of the pool, over a short bucket, with each two turns between each two steps: behind each step what the tables say.
func TestTurns(t *testing.T) {
	seen := map[string]int{}
	all, x := turns(), numbers(18)
	for _, o := range []api.Op{put(3, 8), remove(3), add(3, 8), put(2, 8), get(3)} {
		for i := range 30 {
			for j := i; j < min(i+3, 30); j++ {
				for _, one := range all {
					for _, two := range all {
						turned(t, kinds[1+x.below(3)], o, x.below(6), seen, func(n int, b *bench, th *thread) {
							if n == i {
								one(b, th)
							}
							if n == j {
								two(b, th)
							}
						})
					}
				}
			}
		}
	}
	wanted(t, seen)
}

// turned goes through an op over a short bucket, while others do something ahead of each step.
func turned(t *testing.T, kind string, o api.Op, has int, seen map[string]int, others func(n int, b *bench, th *thread)) {
	b, th := at(t, kind, limited(5, 1, 7), 6)
	b.put(ref(freshCell), 4)
	b.lay(0, 4, item{slot: 4, key: 1, val: 10}, item{slot: 1, key: 2, val: 20, out: true}, item{slot: 3, key: 3, val: 30})
	switch has {
	case 1:
		b.hold(th, soul.Who{Slot: 2, Id: b.w.World.Born(2)})
	case 2, 3, 4:
		b.push(th, queue.Entry{Slot: 2, Retired: 3 + has})
	case 5:
		b.put(ref(freshCell), 5)
		b.put(ref(poolCell), link(2, 3))
	}
	b.begin(th, o)
	for n := range 70 {
		others(n, b, th)
		if b.step(th) != 0 {
			break
		}
	}
	b.count(seen)
}

// count counts how often each row went on to what.
func (b *bench) count(seen map[string]int) {
	for s, n := range b.seen {
		seen[s] += n
	}
}

// wanted holds that each row went on to all that it can.
func wanted(t *testing.T, seen map[string]int) {
	t.Helper()
	came(t, seen,
		"c w", "w w?", "w? x", "w? Done", "w? c", "x x?", "x? cut", "x? k", "x? c", "cut x", "cut Done", "cut c",
		"k k?", "k? x", "k? v", "k? Done", "k? c", "v v?", "v? Done", "v? c",
		"w? i1", "w? f1", "w? a1", "w? b", "k? i1", "k? f1", "k? a1", "k? b", "cut f1", "v? f1", "v? a1", "v? b", "v? u1", "v? d1",
		"a1 c", "f1 b", "f1 p1", "p1 p2", "p1 Done", "p2 p3", "p3 p4", "p4 b", "p4 p1", "b b retire", "b retire b key", "b key b val", "b val c",
		"i1 i2", "i2 Done", "i2 c", "u1 d1", "d1 d2", "d1 c", "d2 r1", "d2 c", "w? r1", "k? r1", "cut r1", "r1 r2", "r2 Done",
		"failed cut", "failed i2", "failed d1", "failed d2", "failed a1", "failed p4", "drop", "full", "late pool", "late w?", "late k?", "late v?",
		"stale x", "stale k", "stale v",
	)
}

// came holds that each of these was come to.
func came(t *testing.T, seen map[string]int, to ...string) {
	t.Helper()
	for _, s := range to {
		if seen[s] == 0 {
			t.Error("no row came to", s)
		}
	}
}

// P17.1: ops of two threads over any buckets, for any keys, while others turn any words as often as they like: behind each step what the tables say.
func TestAnywhere(t *testing.T) {
	x := numbers(16)
	seen := map[string]int{}
	for _, kind := range kinds {
		for _, conf := range []api.Config{hash(6, 1), hash(6, 2), limited(6, 3, 3), limited(7, 64, 2), limited(6, 1, 2)} {
			for range 1500 {
				anywhere(t, &x, kind, conf, seen)
			}
		}
	}
	wanted(t, seen)
}

// anywhere is a bench of two threads, whose steps are taken in turn in any order.
func anywhere(t *testing.T, x *numbers, kind string, conf api.Config, seen map[string]int) {
	b := benchOf(t, kind, conf, 2)
	items, _ := anyItems(x, x.below(7), x.below(11))
	for i := range items {
		items[i].key = uint64(x.below(4) + i)
	}
	b.lay(x.below(min(3, conf.Buckets)), 1, items...)
	b.put(ref(freshCell), uint64(x.below(8)))
	often := 1 + x.below(8)
	for range 80 {
		th := one(x, b.threads)
		if th.tell == nil {
			b.beginAny(x, th)
			continue
		}
		b.step(th)
		if x.below(often) == 0 {
			b.turnAny(x, th)
		}
	}
	b.count(seen)
}

// beginAny is any op of a thread.
func (b *bench) beginAny(x *numbers, th *thread) {
	who := soul.Who{Slot: 1 + x.below(6), Id: x.below(9)}
	if th.held.Slot == 0 && x.below(3) == 0 {
		b.hold(th, who)
	}
	if th.held.Slot == 0 && x.below(3) == 0 {
		b.push(th, queue.Entry{Slot: who.Slot, Retired: x.below(4), Id: who.Id})
	}
	key := uint64(x.below(8)) - uint64(x.below(8)/7)
	b.begin(th, one(x, []api.Op{put(key, one(x, values)), add(key, one(x, values)), remove(key), get(key)}))
}

// turnAny is any turn of any word, those most of all that the thread comes to.
func (b *bench) turnAny(x *numbers, th *thread) {
	if th.tell == nil || x.below(5) == 0 {
		b.w.World.Born(1 + x.below(6))
		return
	}
	c := lead(th.tell.w)
	word := link(x.below(7), x.below(3)) | uint64(x.below(5)/4)<<63
	someone := soul.Who{Slot: 1 + x.below(6), Id: x.below(9)}
	leading := world.Val{Word: word, Id: x.below(9)}
	switch x.below(14) {
	case 0:
		b.put(ref(epochCell), one(x, []uint64{0, 1, 2, 3, maxEpoch, maxEpoch + 1, 1<<63 + 1, math.MaxUint64}))
	case 1:
		b.put(ref(epochCell), uint64(th.epoch))
	case 2:
		b.w.World.Store(ref(rootCell(th.tell.root)), leading)
	case 3:
		b.w.World.Store(th.tell.at, leading)
	case 4:
		b.w.World.Store(by(c, nextPart), leading)
	case 5:
		b.w.World.Store(by(someone, nextPart), world.Val{Word: word, Id: someone.Id})
	case 6:
		b.put(by(c, keyPart), th.tell.op.Key+uint64(x.below(3))-1)
	case 7:
		b.put(by(someone, keyPart), uint64(x.below(9)))
	case 8:
		b.put(ref(freshCell), uint64(x.below(9)))
	case 9:
		b.w.World.Store(ref(poolCell), world.Val{Word: link(x.below(7), x.below(4)), Id: x.below(9)})
	case 10:
		b.w.World.Store(by(someone, chainPart), leading)
	case 11:
		b.put(by(someone, retirePart), one(x, []uint64{0, 1, 2, 3, 1 << 63}))
	case 12:
		b.put(by(c, valPart), one(x, values))
	default:
		b.w.World.Store(th.tell.spot.at, leading)
	}
}
