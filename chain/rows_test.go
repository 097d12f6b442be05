package chain_test

import (
	"math"
	"slices"
	"testing"

	"revenant/api"
	"revenant/core"
	"revenant/queue"
	"revenant/soul"
	"revenant/world"
)

// after is what an op alone leaves of a list: what is answered, and which slots are linked.
func after(items []item, o api.Op, fresh int) (api.Answer, []int) {
	end := len(items)
	var linked []int
	for i, it := range items {
		// What is marked is cut off as far as the search comes.
		if end < i || !it.out {
			linked = append(linked, it.slot)
		}
		if end > i && !it.out && it.key >= o.Key {
			end = i
		}
	}
	found := end < len(items) && items[end].key == o.Key
	switch {
	case o.Kind == api.Has:
		return api.Answer{Done: found}, linked
	case o.Kind == api.Delete && found:
		i := slices.Index(linked, items[end].slot)
		return yes, slices.Delete(linked, i, i+1)
	case o.Kind == api.Delete || found:
		return api.Answer{}, linked
	}
	if end == len(items) {
		return yes, append(linked, fresh)
	}
	return yes, slices.Insert(linked, slices.Index(linked, items[end].slot), fresh)
}

// asked lays a list whose other slots are fresh, and holds an op that goes on alone against the promises.
func asked(t *testing.T, kind string, slots int, o api.Op, items ...item) {
	t.Helper()
	b, th := at(t, kind, list(slots), 6)
	b.put(ref(freshCell), uint64(slots-1))
	items, _ = b.lay(4, items...)
	answer, linked := after(items, o, slots)
	keys := b.keys()
	b.ask(th, o, answer)
	if got := b.linked(); !slices.Equal(got, linked) {
		t.Fatal(kind, o, items, "has", got, "linked, not", linked)
	}
	i, there := slices.BinarySearch(keys, o.Key)
	switch {
	case o.Kind == api.Insert && !there:
		keys = slices.Insert(keys, i, o.Key)
	case o.Kind == api.Delete && there:
		keys = slices.Delete(keys, i, i+1)
	}
	b.has(keys...)
	b.clean()
}

// P16.1 to P16.3: all lists of up to four slots, with each set of them marked, and of marked ones with the key of the one behind them: each op of each key below, at and above those that are there.
func TestAllLists(t *testing.T) {
	order := []int{3, 1, 4, 2}
	for _, kind := range kinds {
		for n := range 5 {
			for marks := range 1 << n {
				for _, twice := range []bool{false, true} {
					var items []item
					key := uint64(1)
					for j, slot := range order[:n] {
						items = append(items, item{slot: slot, key: key, out: marks>>j&1 == 1})
						if !twice || !items[j].out {
							key += 2
						}
					}
					for key := range uint64(2*n + 2) {
						for _, o := range []api.Op{has(key), insert(key), remove(key)} {
							asked(t, kind, 5, o, items...)
						}
					}
				}
			}
		}
	}
}

// P16.1 to P16.3: long lists, with as many marked as may be, of any keys, the lowest and the highest too.
func TestLongLists(t *testing.T) {
	x := numbers(15)
	for _, n := range []int{1, 2, 8, 40, 300} {
		for _, kind := range kinds {
			for _, part := range []int{0, 1, 5, 9, 10} {
				items, keys := anyItems(&x, n, part)
				for range 6 {
					asked(t, kind, n+1, api.Op{Kind: 1 + x.below(3), Key: one(&x, keys)}, items...)
				}
			}
		}
	}
}

// anyItems are n slots in any order, with rising keys, so many of ten of them marked; and keys about theirs.
func anyItems(x *numbers, n, part int) ([]item, []uint64) {
	slots := make([]int, n)
	for i := range slots {
		j := x.below(i + 1)
		slots[i], slots[j] = slots[j], i+1
	}
	var items []item
	keys := []uint64{0, math.MaxUint64}
	// The last ones stand at the end of a word, the first one at its other end.
	key := uint64(0)
	for i, slot := range slots {
		items = append(items, item{slot: slot, key: key, out: x.below(10) < part})
		keys = append(keys, key-1, key, key+1)
		if key++; i == n/2 {
			key = math.MaxUint64 - uint64(n-i-2)
		}
	}
	return items, keys
}

// turn is something that others do to the words between two steps.
type turn func(b *bench, th *thread)

// turns are some of them: the epoch goes on or back or can't be, links lead elsewhere, are marked or of another version, keys are others, slots are somebody else, or were taken by somebody.
func turns() []turn {
	store := func(at func(th *thread) world.At, word uint64, id int) turn {
		return func(b *bench, th *thread) { b.w.World.Store(at(th), world.Val{Word: word, Id: id}) }
	}
	cell := func(p api.Place) func(*thread) world.At { return func(*thread) world.At { return ref(p) } }
	own := func(n int) func(th *thread) world.At {
		return func(th *thread) world.At { return by(lead(th.tell.w), n) }
	}
	here := func(th *thread) world.At { return th.tell.at }
	ended := func(th *thread) world.At { return th.tell.spot.at }
	return []turn{
		store(cell(epochCell), 6, 0), store(cell(epochCell), 7, 0), store(cell(epochCell), 1<<63+6, 0),
		store(cell(rootCell), link(2, 6), 2), store(cell(rootCell), link(3, 6)|mark, 3), store(cell(rootCell), link(0, 9), 0),
		store(own(nextPart), link(2, 6), 2), store(own(nextPart), link(1, 6)|mark, 1), store(own(nextPart), link(0, 5), 0),
		store(here, link(3, 9), 3), store(ended, link(1, 4), 1), store(ended, link(3, 4)|mark, 1),
		store(own(keyPart), 0, 0), store(own(keyPart), 3, 0), store(own(keyPart), math.MaxUint64, 0),
		store(cell(freshCell), 9, 0), store(cell(poolCell), link(1, 3), 1), store(cell(poolCell), link(2, maxEpoch), 2), store(cell(poolCell), 0, 0),
		func(b *bench, th *thread) { b.w.World.Born(max(1, slotOf(th.tell.w.Word))) },
	}
}

// P16.1: each op, with a slot held, one of its own, a fresh one, and one of the pool, over a short list, with each two turns between each two steps: behind each step what the tables say.
func TestTurns(t *testing.T) {
	seen := map[string]int{}
	all, n := turns(), 0
	for _, o := range []api.Op{insert(3), remove(3), insert(2), has(3)} {
		for i := range 26 {
			for j := i; j < min(i+4, 26); j++ {
				for _, one := range all {
					for _, two := range all {
						n++
						turned(t, kinds[1+n/7%3], o, n%6, seen, func(n int, b *bench, th *thread) {
							if n == i {
								one(b, th)
							}
							if n == j {
								two(b, th)
							}
						})
					}
				}
			}
		}
	}
	wanted(t, seen)
}

// turned goes through an op over a short list, while others do something ahead of each step.
func turned(t *testing.T, kind string, o api.Op, has int, seen map[string]int, others func(n int, b *bench, th *thread)) {
	b, th := at(t, kind, limited(5, 7), 6)
	b.put(ref(freshCell), 4)
	b.lay(4, item{slot: 4, key: 1}, item{slot: 1, key: 2, out: true}, item{slot: 3, key: 3})
	switch has {
	case 1:
		b.hold(th, soul.Who{Slot: 2, Id: b.w.World.Born(2)})
	case 2, 3, 4:
		b.push(th, queue.Entry{Slot: 2, Retired: 3 + has})
	case 5:
		b.put(ref(freshCell), 5)
		b.put(ref(poolCell), link(2, 3))
	}
	b.begin(th, o)
	for n := range 60 {
		others(n, b, th)
		if b.step(th) != core.Busy {
			break
		}
	}
	for s, n := range b.seen {
		seen[s] += n
	}
}

// wanted holds that each row went on to all that it can.
func wanted(t *testing.T, seen map[string]int) {
	t.Helper()
	for _, s := range []string{
		"c w", "w w?", "w? x", "w? Done", "w? c", "x x?", "x? cut", "x? k", "x? c", "cut x", "cut Done", "cut c", "k k?", "k? x", "k? Done", "k? c",
		"w? i1", "w? f1", "w? a1", "w? b", "k? i1", "k? f1", "k? a1", "k? b", "k? d1", "cut f1",
		"a1 c", "f1 b", "f1 p1", "p1 p2", "p1 Done", "p2 p3", "p3 p4", "p4 b", "p4 p1", "b b retire", "b retire b key", "b key c",
		"i1 i2", "i2 Done", "i2 c", "d1 d2", "d1 c", "d2 r1", "d2 c", "w? r1", "k? r1", "cut r1", "r1 r2", "r2 Done",
		"failed cut", "failed i2", "failed d1", "failed d2", "failed a1", "failed p4", "drop", "full", "late pool", "late w?", "late k?",
		"stale x", "stale k",
	} {
		if seen[s] == 0 {
			t.Error("no row came to", s)
		}
	}
}

// P16.1: ops, Links and Unlinks of two threads over any lists, from any roots, for any keys, to anybody, while others turn any words as often as they like: behind each step what the tables say.
func TestAnywhere(t *testing.T) {
	x := numbers(16)
	seen := map[string]int{}
	for _, kind := range kinds {
		for _, conf := range []api.Config{list(6), limited(6, 3), limited(7, 2), hash(6), skip(6)} {
			for range 1500 {
				anywhere(t, &x, kind, conf, seen)
			}
		}
	}
	wanted(t, seen)
	for _, s := range []string{"i2 Again", "d1 Again", "to held"} {
		if seen[s] == 0 {
			t.Error("no row came to", s)
		}
	}
}

// anywhere is a bench of two threads, whose steps are taken in turn in any order.
func anywhere(t *testing.T, x *numbers, kind string, conf api.Config, seen map[string]int) {
	b := benchOf(t, kind, conf, 2)
	items, _ := anyItems(x, x.below(7), x.below(11))
	for i := range items {
		items[i].key = uint64(x.below(4) + i)
	}
	b.layAt(x.below(2), 1, items...)
	b.put(ref(freshCell), uint64(x.below(8)))
	often := 1 + x.below(8)
	for range 80 {
		th := one(x, b.threads)
		if th.tell == nil {
			b.beginAny(x, th)
			continue
		}
		b.step(th)
		if x.below(often) == 0 {
			b.turnAny(x, th)
		}
	}
	for s, n := range b.seen {
		seen[s] += n
	}
}

// beginAny is any machine of a thread.
func (b *bench) beginAny(x *numbers, th *thread) {
	who := soul.Who{Slot: 1 + x.below(6), Id: x.below(9)}
	if th.held.Slot == 0 && x.below(3) == 0 {
		b.hold(th, who)
	}
	if th.held.Slot == 0 && x.below(3) == 0 {
		b.push(th, queue.Entry{Slot: who.Slot, Retired: x.below(4), Id: who.Id})
	}
	key := uint64(x.below(8)) - uint64(x.below(8)/7)
	if b.conf.Kind == api.List && x.below(3) > 0 {
		b.begin(th, api.Op{Kind: 1 + x.below(3), Key: key})
		return
	}
	root := x.below(2)
	if th.lane == nil || x.below(3) == 0 {
		b.search(th, root, key)
		return
	}
	switch to := x.below(4); {
	case x.below(2) == 0 && th.held.Slot != 0:
		b.link(th)
	case to == 0:
		b.unlink(th, root, key, lead(th.spot.x))
	case to == 1:
		b.unlink(th, x.below(2), uint64(x.below(8)), th.held)
	case to == 2:
		b.unlink(th, root, key, who)
	default:
		b.unlink(th, root, key, soul.Who{Id: x.below(3)})
	}
}

// turnAny is any turn of any word, those most of all that the thread comes to.
func (b *bench) turnAny(x *numbers, th *thread) {
	if th.tell == nil || x.below(5) == 0 {
		b.w.World.Born(1 + x.below(6))
		return
	}
	c := lead(th.tell.w)
	word := link(x.below(7), x.below(3)) | uint64(x.below(5)/4)<<63
	someone := soul.Who{Slot: 1 + x.below(6), Id: x.below(9)}
	leading := world.Val{Word: word, Id: x.below(9)}
	switch x.below(13) {
	case 0:
		b.put(ref(epochCell), one(x, []uint64{0, 1, 2, 3, maxEpoch, maxEpoch + 1, 1<<63 + 1, math.MaxUint64}))
	case 1:
		b.put(ref(epochCell), uint64(th.epoch))
	case 2:
		b.w.World.Store(ref(api.Place{Kind: 4, Part: x.below(2)}), leading)
	case 3:
		b.w.World.Store(th.tell.at, leading)
	case 4:
		b.w.World.Store(by(c, nextPart), leading)
	case 5:
		b.w.World.Store(by(someone, nextPart), world.Val{Word: word, Id: someone.Id})
	case 6:
		b.put(by(c, keyPart), th.tell.key+uint64(x.below(3))-1)
	case 7:
		b.put(by(someone, keyPart), uint64(x.below(9)))
	case 8:
		b.put(ref(freshCell), uint64(x.below(9)))
	case 9:
		b.w.World.Store(ref(poolCell), world.Val{Word: link(x.below(7), x.below(4)), Id: x.below(9)})
	case 10:
		b.w.World.Store(by(someone, chainPart), leading)
	case 11:
		b.put(by(someone, retirePart), one(x, []uint64{0, 1, 2, 3, 1 << 63}))
	default:
		b.w.World.Store(th.tell.spot.at, leading)
	}
}

// many are threads that change one list, and which keys are there.
type many struct {
	b       *bench
	set     map[uint64]bool
	workers []*worker
	alone   int // how often an op went on alone
}

// worker is one of them, with its op that goes on.
type worker struct {
	*many
	th   *thread
	op   api.Op
	was  bool // whether the key was there at some time since the last checkpoint, and whether it wasn't
	not  bool
	made int // how often it made the key come or go
}

// manyOf are so many threads over a new world of that kind.
func manyOf(t *testing.T, kind string, conf api.Config, threads int) *many {
	m := &many{b: benchOf(t, kind, conf, threads), set: map[uint64]bool{}}
	for _, th := range m.b.threads {
		m.workers = append(m.workers, &worker{many: m, th: th})
	}
	return m
}

// begin is an op of it.
func (p *worker) begin(o api.Op) {
	p.op, p.made = o, 0
	p.b.begin(p.th, o)
	p.since()
}

// goesOn is whether an op of it does.
func (p *worker) goesOn() bool { return p.th.tell != nil }

// since: what was there and what wasn't is asked from here on.
func (p *worker) since() { p.was, p.not = p.set[p.op.Key], !p.set[p.op.Key] }

// step makes its next access, holds the list against the keys that are there, and its answer against what was.
func (p *worker) step() {
	row := p.th.tell.row
	if row == "c" {
		p.since()
	}
	state := p.b.step(p.th)
	done := p.b.w.all[len(p.b.w.all)-1].done
	if row == "i2" && done || row == "d1" && done {
		p.put(row == "i2")
	}
	p.right()
	if state == core.Done {
		p.over()
	}
}

// put: its key is there now, or isn't.
func (p *worker) put(is bool) {
	if p.set[p.op.Key] == is || is != (p.op.Kind == api.Insert) {
		p.b.t.Fatal(p.b.kind, p.op, "is there already:", is)
	}
	p.made++
	p.set[p.op.Key] = is
	for _, other := range p.workers {
		if other.goesOn() && other.op.Key == p.op.Key {
			other.was, other.not = other.was || is, other.not || !is
		}
	}
}

// right holds that the keys of slots without marks rise, each once, and are those that are there.
func (m *many) right() {
	var want []uint64
	for key, is := range m.set {
		if is {
			want = append(want, key)
		}
	}
	slices.Sort(want)
	if got := m.b.keys(); !slices.Equal(got, want) {
		m.b.t.Fatal(m.b.kind, "the keys are", got, "not", want)
	}
}

// over holds its answer: it changed something just once, if it is true; else nothing, and the key was there, or it wasn't.
func (p *worker) over() {
	a, changes := p.th.answer, p.op.Kind != api.Has
	right := p.made == 0
	switch {
	case a == refused(api.ErrFull), a == refused(api.ErrEpoch):
		right = right && p.op.Kind == api.Insert && p.not
	case a == yes && changes:
		right = p.made == 1
	case a == yes, a == api.Answer{} && p.op.Kind == api.Insert:
		right = right && p.was
	case a == api.Answer{}:
		right = right && p.not
	default:
		right = false
	}
	if !right {
		p.b.t.Fatal(p.b.kind, p.op, "answers", a, p.made, p.was, p.not)
	}
	p.b.seen[[]string{"", "insert", "delete", "has"}[p.op.Kind]+answer(a)]++
	p.once()
}

// answer is an answer's name.
func answer(a api.Answer) string {
	switch {
	case a.Err != api.OK:
		return " refused"
	case a.Done:
		return " true"
	}
	return " false"
}

// once holds that no slot is at two places: linked without a mark, held, or somebody's own.
func (m *many) once() {
	at := map[int]int{}
	for _, s := range m.b.linked() {
		if !m.b.isOut(s) {
			at[s]++
		}
	}
	for _, th := range m.b.threads {
		if th.held.Slot != 0 {
			at[th.held.Slot]++
		}
		for _, e := range th.own {
			at[e.Slot]++
		}
	}
	for s, n := range at {
		if n > 1 || s < 1 || s > m.b.conf.Slots {
			m.b.t.Fatal(m.b.kind, "the slot", s, "is at", n, "places")
		}
	}
}

// goAlone lets its op go on alone, and holds that it ends soon.
func (p *worker) goAlone() {
	p.alone++
	n := 0
	for p.goesOn() {
		p.step()
		if n++; n > alone(p.b.conf) {
			p.b.t.Fatal(p.b.kind, p.op, "alone isn't done behind", n)
		}
	}
}

// pick is what any of them does next.
func (m *many) pick(x *numbers, keys int) {
	p := one(x, m.workers)
	n := x.below(40)
	switch {
	case !p.goesOn():
		p.begin(api.Op{Kind: one(x, []int{api.Insert, api.Insert, api.Delete, api.Delete, api.Has}), Key: uint64(1 + x.below(keys))})
	case n == 0:
		p.goAlone()
	case n < 4:
		for range x.below(40) {
			if p.goesOn() {
				p.step()
			}
		}
	default:
		p.step()
	}
}

// same holds that nothing stale went anywhere, and that all that was made is what was made in the first world.
func (m *many) same(first *[]event) {
	m.b.clean()
	if *first == nil {
		*first = m.b.w.all
	}
	if !slices.Equal(*first, m.b.w.all) {
		m.b.t.Fatal(m.b.kind, "comes to something else")
	}
}

// P16.1 to P16.3: threads that insert, delete and ask, of one list with few slots, in any order: behind each step what the tables say, and the keys that are there; an op that goes on alone from wherever it stands ends soon, also at the end, while all others that are in the middle of one stand still; and all worlds come to the same.
func TestMany(t *testing.T) {
	seen := map[string]int{}
	for i := range 48 {
		var first []event
		conf := list(1 + i%5)
		if i%6 == 5 {
			conf.Limit = 2 + i%7
		}
		for _, kind := range kinds {
			m := manyOf(t, kind, conf, 1+i%4)
			x := numbers(i)
			for range 2500 {
				m.pick(&x, 2+i%5)
			}
			if m.alone == 0 {
				t.Error(kind, i, "no op went on alone")
			}
			for _, p := range m.workers {
				p.goAlone()
			}
			m.same(&first)
			for s, n := range m.b.seen {
				seen[s] += n
			}
		}
	}
	for _, s := range []string{
		"i2 Done", "i2 c", "d1 c", "d2 r1", "d2 c", "w? r1", "k? r1", "cut x", "cut c", "drop", "full", "failed a1", "a1 c",
		"insert true", "insert false", "insert refused", "delete true", "delete false", "has true", "has false", "stale x", "stale k",
	} {
		if seen[s] == 0 {
			t.Error("no row came to", s)
		}
	}
}

// orders calls play once for each row of answers that choose, asked for a number below n, can give.
func orders(play func(choose func(n int) int)) {
	type choice struct{ of, taken int }
	var path []choice
	for {
		at := 0
		play(func(n int) int {
			if at == len(path) {
				path = append(path, choice{of: n})
			}
			at++
			return path[at-1].taken
		})
		for len(path) > 0 && path[len(path)-1].taken+1 == path[len(path)-1].of {
			path = path[:len(path)-1]
		}
		if len(path) == 0 {
			return
		}
		path[len(path)-1].taken++
	}
}

// through plays each worker's ops in one order: whoever goes on goes on, but for as many turns as are left where another one may.
func (m *many) through(ops [][]api.Op, turns int, choose func(n int) int) {
	now := -1
	for {
		var can []int
		for i, p := range m.workers {
			if i != now && (p.goesOn() || len(ops[i]) > 0) {
				can = append(can, i)
			}
		}
		switch {
		case now >= 0 && (m.workers[now].goesOn() || len(ops[now]) > 0):
			if turns > 0 && len(can) > 0 {
				if n := choose(len(can) + 1); n > 0 {
					turns--
					now = can[n-1]
				}
			}
		case len(can) > 0:
			now = can[choose(len(can))]
		default:
			return
		}
		p := m.workers[now]
		if !p.goesOn() {
			p.begin(ops[now][0])
			ops[now] = ops[now][1:]
		}
		p.step()
	}
}

// P16.1 to P16.3: a few ops of two threads, in all orders in which they turn aside a few times.
func TestOrders(t *testing.T) {
	seen := map[string]int{}
	for _, s := range []struct {
		slots, turns int
		ahead        []api.Op // of the second thread, ahead of all
		one, two     []api.Op
	}{
		{2, 2, nil, []api.Op{insert(5)}, []api.Op{insert(5)}},
		{3, 2, []api.Op{insert(1), insert(3)}, []api.Op{insert(2)}, []api.Op{remove(1), insert(2)}},
		{2, 2, []api.Op{insert(1), insert(3)}, []api.Op{remove(1)}, []api.Op{remove(1), remove(3), insert(3)}},
		{3, 2, []api.Op{insert(1), insert(2)}, []api.Op{remove(2)}, []api.Op{insert(3), remove(1)}},
		{3, 2, []api.Op{insert(1), insert(2), insert(3)}, []api.Op{remove(2), insert(4)}, []api.Op{remove(1), remove(3)}},
		{1, 3, []api.Op{insert(1)}, []api.Op{remove(1)}, []api.Op{remove(1), insert(1), has(1)}},
		{2, 3, []api.Op{insert(1)}, []api.Op{has(1)}, []api.Op{remove(1), insert(1)}},
		{2, 2, nil, []api.Op{insert(1), remove(1), insert(1)}, []api.Op{insert(2), remove(2), insert(3)}},
	} {
		for _, kind := range kinds {
			turns := s.turns
			if kind != "ghost" {
				turns--
			}
			orders(func(choose func(n int) int) {
				m := manyOf(t, kind, list(s.slots), 2)
				m.through([][]api.Op{nil, s.ahead}, 0, choose)
				m.through([][]api.Op{s.one, s.two}, turns, choose)
				m.b.clean()
				for s, n := range m.b.seen {
					seen[s] += n
				}
			})
		}
	}
	for _, s := range []string{"i2 c", "d1 c", "d2 c", "w? r1", "k? r1", "cut x", "cut Done", "cut c", "drop", "full", "failed a1", "stale x", "stale k"} {
		if seen[s] == 0 {
			t.Error("no order came to", s)
		}
	}
}
