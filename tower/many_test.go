package tower_test

import (
	"slices"
	"strconv"
	"testing"

	"revenant/alloc"
	"revenant/api"
	"revenant/core"
	"revenant/soul"
	"revenant/world"
)

// many are threads that change one skip list as layer 19 says it, access by access, and which keys are there.
type many struct {
	b       *bench
	set     map[uint64]bool
	workers []*worker
	alone   int // how often a Find went on alone
	sure    int // how often one did from a checkpoint on
}

// worker is one of them, with its op that goes on.
type worker struct {
	*many
	th    *thread
	op    api.Op
	stage string   // what of the op is next; empty: none goes on
	then  string   // what comes behind a Find of an op that found its place already
	mine  soul.Who // n of an Insert, c of a Delete
	level int      // l
	top   int      // of the slot that is deleted
	y     world.Val
	again bool // whether a Find came behind the step s
	came  *alloc.Alloc
	gone  *alloc.Retire
	was   bool // whether the key was there at some time since the last checkpoint, and whether it wasn't
	not   bool
}

// manyOf are so many threads over a new world of that kind.
func manyOf(t *testing.T, kind string, conf api.Config, threads int) *many {
	m := &many{b: benchOf(t, kind, conf, threads), set: map[uint64]bool{}}
	for _, th := range m.b.threads {
		m.workers = append(m.workers, &worker{many: m, th: th})
	}
	return m
}

// begin is an op's first Find.
func (p *worker) begin(o api.Op) {
	p.op = o
	p.find("")
}

// find is a Find of it; then: what comes behind it, if its place was found already.
func (p *worker) find(then string) {
	p.stage, p.then = "find", then
	p.b.find(p.th, p.op.Key)
}

// over: the op has ended.
func (p *worker) over() { p.stage = "" }

// put: its key is there now, or isn't.
func (p *worker) put(is bool) {
	if p.set[p.op.Key] == is {
		p.b.t.Fatal(p.b.kind, p.op, "is there already:", is)
	}
	p.set[p.op.Key] = is
	for _, other := range p.workers {
		if other.op.Key == p.op.Key {
			other.was, other.not = other.was || is, other.not || !is
		}
	}
}

// step makes the next access of its op.
func (p *worker) step() {
	w := p.b.w
	switch p.stage {
	case "find":
		if p.th.tell.row == "c" {
			p.was, p.not = p.set[p.op.Key], !p.set[p.op.Key]
		}
		if p.b.step(p.th) == core.Done {
			p.found()
		}
	case "alloc":
		if state := p.came.Step(w); state == core.Done || state == core.Again {
			p.find("")
		} else if state != core.Busy {
			p.over()
		}
		p.th.epoch = p.th.core.Epoch()
	case "retire":
		if p.gone.Step(w) == core.Done {
			p.over()
		}
	default:
		if p.op.Kind == api.Insert {
			p.insert()
		} else {
			p.remove()
		}
	}
}

// found is what comes behind a Find.
func (p *worker) found() {
	switch f := p.th.find; {
	case p.then == "retire":
		p.gone, p.stage = alloc.NewRetire(p.th.core, p.mine), "retire"
	case p.then == "u":
		p.again = true
		if p.stage = "v"; f.Who() != p.mine {
			p.stage = "z"
		}
	default:
		p.searched(f.Found())
	}
}

// searched is what its op does where its key is to be.
func (p *worker) searched(found bool) {
	if found && !p.was || !found && !p.not {
		p.b.t.Fatal(p.b.kind, p.op, "is found:", found)
	}
	held, holds := p.th.core.Held()
	switch {
	case p.op.Kind == api.Has, p.op.Kind == api.Delete && !found:
		p.over()
	case p.op.Kind == api.Delete:
		p.mine, p.stage = p.th.find.Who(), "e"
	case found:
		p.th.core.Drop()
		p.over()
	case holds && p.hides():
		p.b.seen["hides"]++
		p.find("")
	case holds:
		p.mine, p.level, p.stage, p.again = held, 0, "s", false
	default:
		p.over()
		if p.came, _ = alloc.New(p.th.core, p.op); p.came != nil {
			p.stage = "alloc"
		}
	}
}

// hides is whether a slot with its key was linked there at a higher level.
func (p *worker) hides() bool {
	for l := 1; l < p.op.Level; l++ {
		if p.th.find.FoundAt(l) {
			return true
		}
	}
	return false
}

// ahead is a link to where the Find ended at the level.
func (p *worker) ahead() world.Val { return p.th.core.To(lead(p.th.find.Into(p.level))) }

// swap is one of the link at which the Find ended at the level, to its slot.
func (p *worker) swap() bool {
	f := p.th.find
	return p.b.w.Swap(f.At(p.level), f.Into(p.level), p.th.core.To(p.mine))
}

// insert makes the next access of an Insert that found its place.
func (p *worker) insert() {
	w := p.b.w
	p.b.seen[p.stage]++
	switch p.stage {
	case "s":
		w.Store(next(p.mine, p.level), p.ahead())
		if p.level++; p.level == p.op.Level {
			p.level, p.stage = 0, "t"
		}
	case "t":
		if !p.swap() {
			p.find("")
			return
		}
		p.th.core.Take()
		p.put(true)
		p.level = 1
		p.raise()
	case "u":
		if !p.swap() {
			p.find("u")
			return
		}
		p.level++
		p.raise()
	case "v":
		p.y = w.Load(next(p.mine, p.level))
		switch {
		case p.y.Word >= mark:
			p.stage = "z"
		case p.y.Word == p.ahead().Word:
			p.stage = "u"
		default:
			p.stage = "y2"
		}
	case "y2":
		if p.stage = "u"; !w.Swap(next(p.mine, p.level), p.y, p.ahead()) {
			p.stage = "z"
		}
	case "z":
		p.settle(1)
	}
}

// raise is what comes behind a level at which its slot is linked.
func (p *worker) raise() {
	switch {
	case p.level == p.op.Level:
		p.stage = "z"
	case p.again:
		p.stage = "v"
	default:
		p.stage = "u"
	}
}

// settle swaps its slot's State: who comes second retires it.
func (p *worker) settle(state uint64) {
	if p.b.w.Swap(by(p.mine, statePart), val(0), val(state)) {
		p.over()
		return
	}
	p.b.seen["settled "+strconv.Itoa(int(state))]++
	p.find("retire")
}

// remove makes the next access of a Delete that found its slot.
func (p *worker) remove() {
	w := p.b.w
	p.b.seen[p.stage]++
	switch p.stage {
	case "e":
		p.top, p.stage = int(w.Load(by(p.mine, topPart)).Word), "e?"
	case "f", "g":
		p.y = w.Load(next(p.mine, p.level))
		p.stage += "?"
	case "e?", "f?", "g?":
		if !p.th.core.Valid(w) {
			p.th.rolls++
			p.find("")
			return
		}
		p.valid()
	case "f2":
		if w.Swap(next(p.mine, p.level), p.y, p.th.core.Mark(p.y, lead(p.y))) {
			p.level--
		}
		p.lower()
	case "g2":
		if p.stage = "g"; w.Swap(next(p.mine, 0), p.y, p.th.core.Mark(p.y, lead(p.y))) {
			p.put(false)
			p.stage = "h"
		}
	case "h":
		p.settle(2)
	}
}

// valid is what comes of a load of a Delete that was valid.
func (p *worker) valid() {
	switch {
	case p.stage == "e?":
		if p.level = p.top - 1; p.level < 0 || p.level >= p.b.conf.Height {
			p.b.t.Fatal(p.b.kind, p.op, "stands at", p.top)
		}
		p.lower()
	case p.stage == "f?" && p.y.Word >= mark:
		p.level--
		p.lower()
	case p.stage == "f?":
		p.stage = "f2"
	case p.y.Word >= mark:
		p.find("")
	default:
		p.stage = "g2"
	}
}

// lower: the level's mark is next.
func (p *worker) lower() {
	if p.stage = "f"; p.level == 0 {
		p.stage = "g"
	}
}

// live are the slots without a mark that a level's root leads to, in order.
func (m *many) live(level int) []int {
	return slices.DeleteFunc(m.b.linked(level), func(s int) bool { return m.b.isOut(s, level) })
}

// keyOf is a slot's key.
func (m *many) keyOf(slot int) uint64 { return m.b.w.World.Peek(part(slot, keyPart)) }

// right holds that at each level keys without marks rise, that those of the lowest one are those that are there, and that who is marked at a level is at all higher ones.
func (m *many) right() {
	n := 0
	for _, is := range m.set {
		if is {
			n++
		}
	}
	for l := range m.b.conf.Height {
		live := m.live(l)
		for i, s := range live {
			if key := m.keyOf(s); i > 0 && m.keyOf(live[i-1]) >= key || !m.set[key] {
				m.b.t.Fatal(m.b.kind, "at the level", l, "there is", key, "of", m.set)
			}
		}
		if l == 0 && len(live) != n {
			m.b.t.Fatal(m.b.kind, "there are", len(live), "of", m.set)
		}
		for _, s := range m.b.linked(l) {
			for h := l + 1; h < int(m.b.w.World.Peek(part(s, topPart))); h++ {
				if m.b.isOut(s, l) && !m.b.isOut(s, h) {
					m.b.t.Fatal(m.b.kind, s, "has a mark at", l, "and none at", h)
				}
			}
		}
	}
}

// goAlone lets its Find go on alone, and holds it against the promises: what it meets from here on is cut off, and, from a checkpoint on, it ends where it is to.
func (p *worker) goAlone() {
	p.alone++
	var live [][]int
	for l := range p.b.conf.Height {
		live = append(live, p.live(l))
	}
	sure, n := false, 0
	p.th.tell.met = nil
	for p.stage == "find" {
		sure = sure || p.th.tell.row == "c"
		p.was, p.not = p.was || p.set[p.op.Key], p.not || !p.set[p.op.Key]
		n++
		if p.b.step(p.th) == core.Done {
			break
		}
	}
	if n > alone(p.b.conf) {
		p.b.t.Fatal(p.b.kind, p.op, "alone is done behind", n)
	}
	for _, out := range p.th.last.met {
		if slices.Contains(p.b.linked(out.level), out.who.Slot) {
			p.b.t.Fatal(p.b.kind, p.op, "alone left", out)
		}
		p.b.seen["met "+strconv.Itoa(out.level)]++
	}
	for l, was := range live {
		if got := p.live(l); !slices.Equal(got, was) {
			p.b.t.Fatal(p.b.kind, p.op, "alone made", got, "of", was)
		}
		if sure {
			p.endedAt(l, was)
		}
	}
	if sure {
		p.sure++
	}
	p.found()
}

// endedAt holds that its Find ended where the first slot without a mark is that hasn't a lesser key.
func (p *worker) endedAt(level int, live []int) {
	f := p.th.find
	i := slices.IndexFunc(live, func(s int) bool { return p.keyOf(s) >= p.op.Key })
	slot, is := 0, false
	if i >= 0 {
		slot, is = live[i], p.keyOf(live[i]) == p.op.Key
	}
	into := f.Into(level)
	if slotOf(into.Word) != slot || into.Word >= mark || f.FoundAt(level) != is || p.b.w.World.Load(f.At(level)) != into {
		p.b.t.Fatal(p.b.kind, p.op, "alone ends at the level", level, f.At(level), into, f.FoundAt(level), "not at", slot)
	}
}

// pick is what any of them does next.
func (m *many) pick(x *numbers, keys int) {
	p := one(x, m.workers)
	n := x.below(40)
	switch {
	case p.stage == "":
		o := api.Op{Kind: one(x, []int{api.Insert, api.Insert, api.Delete, api.Delete, api.Has}), Key: uint64(1 + x.below(keys))}
		if o.Kind == api.Insert {
			o.Level = 1 + x.below(m.b.conf.Height)
		}
		p.begin(o)
	case n < 2 && p.stage == "find":
		p.goAlone()
	case n < 5:
		for range x.below(60) {
			if p.stage != "" {
				p.step()
			}
		}
	default:
		p.step()
	}
	m.right()
}

// clean holds that nothing stale went anywhere.
func (m *many) clean() {
	if f, is := m.b.w.World.(interface{ Faults() int }); is && f.Faults() != 0 {
		m.b.t.Fatal(m.b.kind, "has faults", f.Faults())
	}
}

// same holds that, and that all that was made is what was made in the first world.
func (m *many) same(first *[]event) {
	m.clean()
	if *first == nil {
		*first = m.b.w.all
	}
	if !slices.Equal(*first, m.b.w.all) {
		m.b.t.Fatal(m.b.kind, "comes to something else")
	}
}

// P18.1, P18.2: threads that insert, delete and ask, of one skip list with few slots, in any order: behind each step of a Find what the chapter says; a Find that goes on alone from wherever it stands ends soon, and cuts off what it meets; from a checkpoint on it ends where it is to, else it finds what was there at some time since; and all worlds come to the same.
func TestMany(t *testing.T) {
	seen := map[string]int{}
	for i := range 48 {
		var first []event
		for _, kind := range kinds {
			m := manyOf(t, kind, skip(2+i%4, 1+i/4%4), 2+i%3)
			x := numbers(i)
			for range 3000 {
				m.pick(&x, 2+i%5)
			}
			m.same(&first)
			m.b.count(seen)
			if m.alone == 0 || m.sure == 0 {
				t.Error(kind, i, "no Find went on alone")
			}
		}
	}
	for l := range 4 {
		at := strconv.Itoa(l)
		came(t, seen, "met "+at, "invalid w? "+at, "invalid x? "+at, "invalid k? "+at, "failed cut "+at, "found "+at, "cut "+at+" x "+at)
	}
	came(t, seen, "marked w? 0", "marked w? 1", "marked w? 2", "down a root", "down a slot", "stale x", "stale k", "v", "y2", "settled 1", "settled 2")
}

// orders calls play once for each row of answers that choose, asked for a number below n, can give.
func orders(play func(choose func(n int) int)) {
	type choice struct{ of, taken int }
	var path []choice
	for {
		at := 0
		play(func(n int) int {
			if at == len(path) {
				path = append(path, choice{of: n})
			}
			at++
			return path[at-1].taken
		})
		for len(path) > 0 && path[len(path)-1].taken+1 == path[len(path)-1].of {
			path = path[:len(path)-1]
		}
		if len(path) == 0 {
			return
		}
		path[len(path)-1].taken++
	}
}

// through plays each worker's ops in one order: whoever goes on goes on, but for as many turns as are left where another one may.
func (m *many) through(ops [][]api.Op, turns int, choose func(n int) int) {
	now := -1
	for {
		var can []int
		for i, p := range m.workers {
			if i != now && (p.stage != "" || len(ops[i]) > 0) {
				can = append(can, i)
			}
		}
		switch {
		case now >= 0 && (m.workers[now].stage != "" || len(ops[now]) > 0):
			if turns > 0 && len(can) > 0 {
				if n := choose(len(can) + 1); n > 0 {
					turns--
					now = can[n-1]
				}
			}
		case len(can) > 0:
			now = can[choose(len(can))]
		default:
			return
		}
		p := m.workers[now]
		if p.stage == "" {
			p.begin(ops[now][0])
			ops[now] = ops[now][1:]
		}
		p.step()
		if p.stage == "" {
			m.right()
		}
	}
}

// P18.1, P18.2: a few ops of two threads, in all orders in which they turn aside a few times.
func TestOrders(t *testing.T) {
	insert := func(key uint64, level int) api.Op { return api.Op{Kind: api.Insert, Key: key, Level: level} }
	remove := func(key uint64) api.Op { return api.Op{Kind: api.Delete, Key: key} }
	has := func(key uint64) api.Op { return api.Op{Kind: api.Has, Key: key} }
	seen := map[string]int{}
	for _, s := range []struct {
		slots, height, turns int
		ahead                []api.Op // of the second thread, ahead of all
		one, two             []api.Op
	}{
		{2, 2, 2, []api.Op{insert(1, 2), insert(3, 2)}, []api.Op{has(3)}, []api.Op{remove(1)}},
		{2, 2, 3, nil, []api.Op{insert(1, 2)}, []api.Op{insert(1, 2), remove(1)}},
		{2, 3, 2, []api.Op{insert(1, 3), insert(3, 2)}, []api.Op{has(3)}, []api.Op{remove(1), insert(2, 3)}},
		{3, 2, 2, []api.Op{insert(1, 2), insert(3, 2)}, []api.Op{insert(2, 2)}, []api.Op{remove(1)}},
		{3, 3, 2, []api.Op{insert(1, 3), insert(2, 2), insert(3, 3)}, []api.Op{remove(2)}, []api.Op{remove(1)}},
		{3, 3, 2, []api.Op{insert(1, 1), insert(3, 3)}, []api.Op{insert(2, 3)}, []api.Op{remove(2), remove(3)}},
		{1, 2, 2, []api.Op{insert(1, 2)}, []api.Op{remove(1)}, []api.Op{remove(1), insert(1, 2), has(1)}},
	} {
		for _, kind := range kinds {
			turns := s.turns
			if kind != "ghost" {
				turns--
			}
			orders(func(choose func(n int) int) {
				m := manyOf(t, kind, skip(s.slots, s.height), 2)
				m.through([][]api.Op{nil, s.ahead}, 0, choose)
				m.through([][]api.Op{s.one, s.two}, turns, choose)
				m.clean()
				m.b.count(seen)
			})
		}
	}
	came(t, seen,
		"found 0", "found 1", "found 2", "invalid w? 0", "invalid x? 0", "invalid k? 0", "invalid w? 1", "invalid x? 1", "invalid k? 1",
		"failed cut 0", "failed cut 1", "marked w? 0", "cut 1 x 1", "cut 0 Done", "stale x", "stale k", "v", "settled 1", "settled 2", "hides",
	)
}
