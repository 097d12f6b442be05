package seek_test

import (
	"math"
	"slices"
	"testing"

	"revenant/alloc"
	"revenant/api"
	"revenant/core"
	"revenant/soul"
	"revenant/world"
)

// alone is layer 3's Alone, as the document says it.
func alone(c api.Config) int { return 64 * (c.Slots + 4) * (c.Height + 1) }

// expected is what a search that goes on alone comes to, by the chapter's promises: how many steps it makes, at which item it ends, and which slots are linked behind it.
type expected struct {
	steps  int
	end    int // the first item without a mark that hasn't a lesser key; as many as there are, if there is none
	found  bool
	linked []int
}

// expect tells what a search comes to.
func expect(items []item, key uint64, values bool) expected {
	e := expected{steps: 3, end: len(items)}
	for i, it := range items {
		switch {
		case e.end < i:
			e.linked = append(e.linked, it.slot)
		case it.out:
			e.steps += 3
		default:
			e.steps += 4
			e.linked = append(e.linked, it.slot)
			if it.key >= key {
				e.end, e.found = i, it.key == key
			}
		}
	}
	if e.found && values {
		e.steps += 2
	}
	return e
}

// searched lays a list, and holds a search that goes on alone against the promises.
func searched(t *testing.T, kind string, conf api.Config, from int, key uint64, values bool, list ...item) {
	b, th := at(t, kind, conf, 6)
	items, links := b.lay(from, 0, 4, list...)
	b.find(th, from, key, values)
	state, steps := b.run(th)
	e := expect(items, key, values)
	if state != core.Done || steps != e.steps || steps > alone(conf) {
		t.Fatal(kind, conf, key, items, "ends", name(state), "behind", steps, "not", e.steps)
	}
	if got := b.linked(from, 0); !slices.Equal(got, e.linked) {
		t.Fatal(kind, conf, key, items, "has", got, "linked, not", e.linked)
	}
	l := th.lane
	who, out, value := soul.Who{}, val(0), uint64(0)
	if e.end < len(items) {
		who, out = items[e.end].who(), links[e.end+1]
	}
	if e.found && values {
		value = items[e.end].val
	}
	if l.Found() != e.found || l.Who() != who || l.Out() != out || l.Val() != value {
		t.Fatal(kind, conf, key, items, "answers", l.Found(), l.Who(), l.Out(), l.Val())
	}
	// What leads there is the last link without a mark ahead of it, as it is now: of the list's version, or, where something was cut off, of the thread's epoch.
	here, last := ref(root(from)), -1
	for i, it := range items[:e.end] {
		if !it.out {
			here, last = by(it.who(), nextPart), i
		}
	}
	into := world.Val{Word: link(who.Slot, 4), Id: who.Id}
	if e.end > last+1 {
		into.Word = link(who.Slot, 6)
	}
	if l.At() != here || l.Into() != into || b.w.World.Load(here) != into {
		t.Fatal(kind, conf, key, items, "is led to by", l.At(), l.Into(), "not", here, into)
	}
}

// P15.2: all lists of up to five slots, with each set of them marked, and of marked ones with the key of the one behind them, for each key below, at and above those that are there.
func TestAllLists(t *testing.T) {
	order := []int{3, 1, 5, 2, 4}
	for i, conf := range each(5) {
		from := []int{0, 2, 0}[i]
		for _, kind := range kinds {
			for n := range 6 {
				for marks := range 1 << n {
					for _, twice := range []bool{false, true} {
						allKeys(t, kind, conf, from, order[:n], marks, twice)
					}
				}
			}
		}
	}
}

// allKeys searches one list for each key.
func allKeys(t *testing.T, kind string, conf api.Config, from int, order []int, marks int, twice bool) {
	var items []item
	key := uint64(1)
	for j, slot := range order {
		items = append(items, item{slot: slot, key: key, val: uint64(10 * slot), out: marks>>j&1 == 1})
		if !twice || !items[j].out {
			key += 2
		}
	}
	for key := range uint64(2*len(order) + 2) {
		for _, values := range []bool{false, true} {
			searched(t, kind, conf, from, key, values, items...)
		}
	}
}

// P15.2: long lists, over all slots of a structure, and about the ends of what a slot can be, with as many marked as may be, at any keys.
func TestLongLists(t *testing.T) {
	x := numbers(15)
	for _, n := range []int{1, 2, 8, 40, 300} {
		for _, kind := range kinds {
			for _, part := range []int{0, 1, 2, 5, 9, 10} {
				for _, conf := range append(each(n), list(maxSlots)) {
					items, keys := anyItems(&x, n, part)
					if conf.Slots == maxSlots {
						for i := range items {
							items[i].slot = maxSlots - items[i].slot + 1
						}
					}
					for range 6 {
						searched(t, kind, conf, 0, one(&x, keys), x.below(2) == 0, items...)
					}
				}
			}
		}
	}
}

// anyItems are n slots in any order, with rising keys, so many of ten of them marked; and keys about theirs.
func anyItems(x *numbers, n, part int) ([]item, []uint64) {
	slots := make([]int, n)
	for i := range slots {
		j := x.below(i + 1)
		slots[i], slots[j] = slots[j], i+1
	}
	var items []item
	keys := []uint64{0, math.MaxUint64}
	// The last ones stand at the end of a word, the first one at its other end.
	key := uint64(0)
	for i, slot := range slots {
		items = append(items, item{slot: slot, key: key, val: uint64(x.below(1000)), out: x.below(10) < part})
		keys = append(keys, key-1, key, key+1)
		if key++; i == n/2 {
			key = math.MaxUint64 - uint64(n-i-2)
		}
	}
	return items, keys
}

// turn is something that others do to the words between two steps.
type turn func(b *bench, th *thread)

// turns are some of them: the epoch goes on or back or can't be, links are led elsewhere, marked or of another version, keys and values are others, slots are somebody else.
func turns() []turn {
	store := func(at func(th *thread) world.At, word uint64, id int) turn {
		return func(b *bench, th *thread) { b.w.World.Store(at(th), world.Val{Word: word, Id: id}) }
	}
	epoch := func(*thread) world.At { return ref(epochCell) }
	first := func(*thread) world.At { return ref(root(0)) }
	own := func(n int) func(th *thread) world.At {
		return func(th *thread) world.At { return by(lead(th.tell.w), n) }
	}
	here := func(th *thread) world.At { return th.tell.at }
	return []turn{
		store(epoch, 6, 0), store(epoch, 7, 0), store(epoch, 4, 0), store(epoch, 1<<63+6, 0),
		store(first, link(2, 6), 2), store(first, link(0, 6), 0), store(first, link(3, 6)|mark, 3),
		store(own(nextPart), link(2, 6), 2), store(own(nextPart), link(1, 6)|mark, 1), store(own(nextPart), link(0, 5), 0), store(own(nextPart), link(0, 5)|mark, 4),
		store(here, link(3, 9), 3), store(here, link(1, 4)|mark, 1),
		store(own(keyPart), 0, 0), store(own(keyPart), 3, 0), store(own(keyPart), math.MaxUint64, 0),
		store(own(valPart), 1<<63, 0),
		func(b *bench, th *thread) { b.w.World.Born(max(1, slotOf(th.tell.w.Word))) },
		func(b *bench, th *thread) { b.w.World.Born(2) },
	}
}

// P15.1: a lane and a search over a short list, with each two turns between each two steps: behind each step what the table says.
func TestTurns(t *testing.T) {
	seen := map[string]int{}
	all := turns()
	for _, kind := range kinds {
		for _, search := range []bool{false, true} {
			for i := range 14 {
				for j := i; j < min(i+4, 16); j++ {
					for _, one := range all {
						for _, two := range all {
							turned(t, kind, search, seen, func(n int, b *bench, th *thread) {
								if n == i {
									one(b, th)
								}
								if n == j {
									two(b, th)
								}
							})
						}
					}
				}
			}
		}
	}
	wanted(t, seen)
}

// turned goes through a short list, while others do something ahead of each step.
func turned(t *testing.T, kind string, search bool, seen map[string]int, others func(n int, b *bench, th *thread)) {
	b, th := at(t, kind, list(4), 6)
	b.lay(0, 0, 4, item{slot: 4, key: 1}, item{slot: 1, key: 2, out: true}, item{slot: 3, key: 3, val: 30}, item{slot: 2, key: 4, val: 40})
	if search {
		b.find(th, 0, 3, true)
	} else {
		b.lane(th, ref(root(0)), 0, 3, true)
	}
	for n := range 60 {
		others(n, b, th)
		if b.step(th) != core.Busy {
			break
		}
	}
	for s, n := range b.seen {
		seen[s] += n
	}
}

// wanted holds that each row went on to all that it can.
func wanted(t *testing.T, seen map[string]int) {
	t.Helper()
	for _, s := range []string{
		"c w", "w w?", "w? x", "w? Done", "w? Again", "w? c", "marked w", "x x?", "x? cut", "x? k", "x? Again", "x? c", "cut x", "cut Done", "cut Again", "cut c",
		"k k?", "k? x", "k? Done", "k? v", "k? Again", "k? c", "v v?", "v? Done", "v? Again", "v? c",
		"invalid w?", "invalid x?", "invalid k?", "invalid v?", "failed cut", "stale x", "stale k", "stale v",
	} {
		if seen[s] == 0 {
			t.Error("no row came to", s)
		}
	}
}

// P15.1: lanes and searches of any levels, from any references, for any keys, over any lists, while others turn any words as often as they like: behind each step what the table says.
func TestAnywhere(t *testing.T) {
	x := numbers(16)
	seen := map[string]int{}
	for _, kind := range kinds {
		for _, conf := range append(each(6), skip(1), list(maxSlots)) {
			for range 800 {
				anywhere(t, &x, kind, conf, seen)
			}
		}
	}
	wanted(t, seen)
	for _, s := range []string{"found", "stale w"} {
		if seen[s] == 0 {
			t.Error("no row came to", s)
		}
	}
}

// anywhere is a bench of two threads, whose steps are taken in turn in any order.
func anywhere(t *testing.T, x *numbers, kind string, conf api.Config, seen map[string]int) {
	b := benchOf(t, kind, conf, 2)
	level := x.below(conf.Height)
	items, _ := anyItems(x, x.below(7), x.below(11))
	for i := range items {
		items[i].key = uint64(x.below(4) + i)
	}
	items, _ = b.lay(x.below(2), level, 1, items...)
	often := 1 + x.below(6)
	for range 60 {
		th := one(x, b.threads)
		if th.tell == nil {
			b.begin(x, th, level, items)
			continue
		}
		b.step(th)
		if x.below(often) == 0 {
			b.any(x, th, level)
		}
	}
	for s, n := range b.seen {
		seen[s] += n
	}
}

// begin is any lane or search of a thread.
func (b *bench) begin(x *numbers, th *thread, level int, items []item) {
	key := uint64(x.below(10)) - uint64(x.below(8)/7)
	if x.below(2) == 0 {
		b.find(th, x.below(2), key, x.below(2) == 0)
		return
	}
	if x.below(5) > 0 {
		b.check(th)
	}
	here := ref(root(x.below(2)))
	if len(items) > 0 && x.below(2) == 0 {
		here = by(one(x, items).who(), nextPart+level)
	}
	if x.below(9) == 0 {
		here.Id++
	}
	b.lane(th, here, level, key, x.below(2) == 0)
}

// any is any turn of any word, those most of all that the thread comes to.
func (b *bench) any(x *numbers, th *thread, level int) {
	if th.tell == nil || x.below(5) == 0 {
		b.w.World.Born(1 + x.below(6))
		return
	}
	c := lead(th.tell.w)
	word := link(x.below(7), x.below(3)) | uint64(x.below(5)/4)<<63
	someone := soul.Who{Slot: 1 + x.below(6), Id: x.below(9)}
	switch x.below(8) {
	case 0:
		b.w.put(ref(epochCell), one(x, []uint64{0, 1, 2, 3, maxEpoch, maxEpoch + 1, 1<<63 + 1, math.MaxUint64}))
	case 1:
		b.w.put(ref(epochCell), uint64(th.epoch))
	case 2:
		b.w.World.Store(ref(root(x.below(2))), world.Val{Word: word, Id: x.below(9)})
	case 3:
		b.w.World.Store(th.tell.at, world.Val{Word: word, Id: x.below(9)})
	case 4:
		b.w.World.Store(by(c, nextPart+level), world.Val{Word: word, Id: x.below(9)})
	case 5:
		b.w.World.Store(by(someone, nextPart+level), world.Val{Word: word, Id: someone.Id})
	case 6:
		b.w.put(by(c, keyPart), th.tell.key+uint64(x.below(3))-1)
	default:
		b.w.put(by(someone, keyPart+x.below(2)), uint64(x.below(9)))
	}
}

// many are threads that change one list as layer 16 says it, access by access, and which keys are there.
type many struct {
	b       *bench
	set     map[uint64]bool
	workers []*worker
	alone   int // how often a search went on alone
}

// worker is one of them, with its op that goes on.
type worker struct {
	*many
	th    *thread
	op    api.Op
	stage string // what of the op is next; empty: none goes on
	came  *alloc.Alloc
	gone  *alloc.Retire
	was   bool // whether the key was there at some time since the search began, and whether it wasn't
	not   bool
}

// manyOf are so many threads over a new world of that kind.
func manyOf(t *testing.T, kind string, conf api.Config, threads int) *many {
	m := &many{b: benchOf(t, kind, conf, threads), set: map[uint64]bool{}}
	for _, th := range m.b.threads {
		m.workers = append(m.workers, &worker{many: m, th: th})
	}
	return m
}

// put: a key is there now, or isn't.
func (m *many) put(key uint64, is bool) {
	if m.set[key] == is {
		m.b.t.Fatal(m.b.kind, key, "is there already:", is)
	}
	m.set[key] = is
	for _, p := range m.workers {
		if p.op.Key == key {
			p.was, p.not = p.was || is, p.not || !is
		}
	}
}

// keys are the keys of linked slots without a mark, in order.
func (m *many) keys() []uint64 {
	var all []uint64
	for _, s := range m.b.linked(0, 0) {
		if !m.b.isOut(s, 0) {
			all = append(all, m.b.w.World.Peek(part(s, keyPart)))
		}
	}
	return all
}

// right holds that they rise, and are those that are there.
func (m *many) right() {
	var want []uint64
	for key, is := range m.set {
		if is {
			want = append(want, key)
		}
	}
	slices.Sort(want)
	if got := m.keys(); !slices.Equal(got, want) {
		m.b.t.Fatal(m.b.kind, "the keys are", got, "not", want)
	}
}

// begin is an op's first search.
func (p *worker) begin(o api.Op) {
	p.op = o
	p.find("search")
}

// find is a search of it.
func (p *worker) find(stage string) {
	p.stage, p.was, p.not = stage, p.set[p.op.Key], !p.set[p.op.Key]
	p.b.find(p.th, 0, p.op.Key, false)
}

// step makes its next access.
func (p *worker) step() {
	w, c, l := p.b.w, p.th.core, p.th.lane
	switch p.stage {
	case "search", "clean":
		if p.b.step(p.th) == core.Done {
			p.found()
		}
	case "alloc":
		if state := p.came.Step(w); state == core.Done || state == core.Again {
			p.find("search")
		} else if state != core.Busy {
			p.stage = ""
		}
	case "store":
		held, _ := c.Held()
		w.Store(by(held, nextPart), c.To(lead(l.Into())))
		p.stage = "link"
	case "link":
		held, _ := c.Held()
		if !w.Swap(l.At(), l.Into(), c.To(held)) {
			p.find("search")
			return
		}
		c.Take()
		p.put(p.op.Key, true)
		p.stage = ""
	case "mark":
		if !w.Swap(by(l.Who(), nextPart), l.Out(), c.Mark(l.Out(), lead(l.Out()))) {
			p.find("search")
			return
		}
		p.put(p.op.Key, false)
		p.gone, p.stage = alloc.NewRetire(c, l.Who()), "cut"
	case "cut":
		if p.stage = "retire"; !w.Swap(l.At(), l.Into(), c.To(lead(l.Out()))) {
			p.find("clean")
		}
	case "retire":
		if p.gone.Step(w) == core.Done {
			p.stage = ""
		}
	}
}

// found is what comes behind a search.
func (p *worker) found() {
	found := p.th.lane.Found()
	if found && !p.was || !found && !p.not {
		p.b.t.Fatal(p.b.kind, p.op, "is found:", found)
	}
	_, holds := p.th.core.Held()
	switch {
	case p.stage == "clean":
		p.stage = "retire"
	case p.op.Kind == api.Delete && found:
		p.stage = "mark"
	case p.op.Kind == api.Insert && !found && holds:
		p.stage = "store"
	case p.op.Kind == api.Insert && !found:
		p.stage = ""
		if p.came, _ = alloc.New(p.th.core, p.op); p.came != nil {
			p.stage = "alloc"
		}
	default:
		p.th.core.Drop()
		p.stage = ""
	}
}

// goAlone lets its search go on alone, and holds it against the promises: from a checkpoint on it finds what is there.
func (p *worker) goAlone() {
	p.alone++
	keys, row, lane := p.keys(), p.th.tell.row, p.th.lane
	state, steps := p.b.run(p.th)
	if state != core.Done || steps > alone(p.b.conf) {
		p.b.t.Fatal(p.b.kind, p.op, "alone is", name(state), "behind", steps)
	}
	if found := p.th.lane.Found(); (row == "c" || lane != p.th.lane) && found != p.set[p.op.Key] {
		p.b.t.Fatal(p.b.kind, p.op, "alone, from a checkpoint on, is found:", found)
	}
	if got := p.keys(); !slices.Equal(got, keys) {
		p.b.t.Fatal(p.b.kind, p.op, "alone made", got, "of", keys)
	}
	linked := p.b.linked(0, 0)
	for _, who := range p.th.last.met {
		if slices.Contains(linked, who.Slot) {
			p.b.t.Fatal(p.b.kind, p.op, "alone left", who, linked)
		}
		p.b.seen["met"]++
	}
	p.found()
}

// P15.1, P15.2: threads that insert, delete and ask, of one list with few slots, in any order: a search that goes on alone from wherever it stands ends soon, and cuts off what it met; from a checkpoint on it finds what is there, else what was there at some time since it began; and all worlds come to the same.
func TestMany(t *testing.T) {
	seen := map[string]int{}
	for i := range 40 {
		var first []event
		for _, kind := range kinds {
			m := manyOf(t, kind, list(2+i%4), 2+i%3)
			x := numbers(i)
			for range 3000 {
				m.pick(&x)
			}
			m.same(&first)
			for s, n := range m.b.seen {
				seen[s] += n
			}
			if m.alone == 0 {
				t.Error(kind, i, "no search went on alone")
			}
		}
	}
	for _, s := range []string{"met", "invalid w?", "invalid x?", "invalid k?", "failed cut", "cut x", "cut Done", "stale x", "stale k"} {
		if seen[s] == 0 {
			t.Error("no row came to", s)
		}
	}
}

// pick is what any of them does next.
func (m *many) pick(x *numbers) {
	p := one(x, m.workers)
	n := x.below(40)
	switch {
	case p.stage == "":
		p.begin(api.Op{Kind: one(x, []int{api.Insert, api.Insert, api.Delete, api.Delete, api.Has}), Key: uint64(1 + x.below(5))})
	case n == 0 && (p.stage == "search" || p.stage == "clean"):
		p.goAlone()
	case n < 4:
		for range x.below(40) {
			if p.stage != "" {
				p.step()
			}
		}
	default:
		p.step()
	}
	m.right()
}

// same holds that nothing stale went anywhere, and that all that was made is what was made in the first world.
func (m *many) same(first *[]event) {
	if f, is := m.b.w.World.(interface{ Faults() int }); is && f.Faults() != 0 {
		m.b.t.Fatal(m.b.kind, "has faults", f.Faults())
	}
	if *first == nil {
		*first = m.b.w.all
	}
	if !slices.Equal(*first, m.b.w.all) {
		m.b.t.Fatal(m.b.kind, "comes to something else")
	}
}

// orders calls play once for each row of answers that choose, asked for a number below n, can give.
func orders(play func(choose func(n int) int)) {
	type choice struct{ of, taken int }
	var path []choice
	for {
		at := 0
		play(func(n int) int {
			if at == len(path) {
				path = append(path, choice{of: n})
			}
			at++
			return path[at-1].taken
		})
		for len(path) > 0 && path[len(path)-1].taken+1 == path[len(path)-1].of {
			path = path[:len(path)-1]
		}
		if len(path) == 0 {
			return
		}
		path[len(path)-1].taken++
	}
}

// through plays each worker's ops in one order: whoever goes on goes on, but for as many turns as are left where another one may.
func (m *many) through(ops [][]api.Op, turns int, choose func(n int) int) {
	now := -1
	for {
		var can []int
		for i, p := range m.workers {
			if i != now && (p.stage != "" || len(ops[i]) > 0) {
				can = append(can, i)
			}
		}
		switch {
		case now >= 0 && (m.workers[now].stage != "" || len(ops[now]) > 0):
			if turns > 0 && len(can) > 0 {
				if n := choose(len(can) + 1); n > 0 {
					turns--
					now = can[n-1]
				}
			}
		case len(can) > 0:
			now = can[choose(len(can))]
		default:
			return
		}
		p := m.workers[now]
		if p.stage == "" {
			p.begin(ops[now][0])
			ops[now] = ops[now][1:]
		}
		p.step()
		if p.stage == "" {
			m.right()
		}
	}
}

// P15.1, P15.2: a few ops of two threads, in all orders in which they turn aside a few times.
func TestOrders(t *testing.T) {
	insert := func(key uint64) api.Op { return api.Op{Kind: api.Insert, Key: key} }
	remove := func(key uint64) api.Op { return api.Op{Kind: api.Delete, Key: key} }
	has := func(key uint64) api.Op { return api.Op{Kind: api.Has, Key: key} }
	seen := map[string]int{}
	for _, s := range []struct {
		slots, turns int
		ahead        []api.Op // of the second thread, ahead of all
		one, two     []api.Op
	}{
		{2, 2, []api.Op{insert(1), insert(3)}, []api.Op{has(3)}, []api.Op{remove(1), insert(2)}},
		{2, 3, []api.Op{insert(1), insert(3)}, []api.Op{has(3)}, []api.Op{remove(3), insert(3)}},
		{3, 2, []api.Op{insert(1), insert(2), insert(3)}, []api.Op{remove(2)}, []api.Op{remove(1), remove(3)}},
		{3, 2, []api.Op{insert(1), insert(2)}, []api.Op{insert(3)}, []api.Op{remove(2), insert(4)}},
		{1, 3, []api.Op{insert(1)}, []api.Op{remove(1)}, []api.Op{remove(1), insert(1), has(1)}},
	} {
		for _, kind := range kinds {
			turns := s.turns
			if kind != "ghost" {
				turns--
			}
			orders(func(choose func(n int) int) {
				m := manyOf(t, kind, list(s.slots), 2)
				m.through([][]api.Op{nil, s.ahead}, 0, choose)
				m.through([][]api.Op{s.one, s.two}, turns, choose)
				if f, is := m.b.w.World.(interface{ Faults() int }); is && f.Faults() != 0 {
					t.Fatal(kind, s, "has faults")
				}
				for s, n := range m.b.seen {
					seen[s] += n
				}
			})
		}
	}
	for _, s := range []string{"found", "invalid w?", "invalid x?", "invalid k?", "failed cut", "cut x", "cut Done", "stale x", "stale k"} {
		if seen[s] == 0 {
			t.Error("no order came to", s)
		}
	}
}
