package skip_test

import (
	"slices"
	"strconv"
	"testing"

	"revenant/alloc"
	"revenant/api"
	"revenant/core"
)

// many are threads that change one skip list, and which keys are there.
type many struct {
	b       *bench
	set     map[uint64]bool
	retired map[int]bool // whether a slot was, since its last birth
	workers []*worker
	alone   int // how often an op went on alone
	given   int // how often a slot was given
}

// worker is one of them, with its op that goes on.
type worker struct {
	*many
	th   *thread
	op   api.Op
	was  bool // whether the key was there at some time since the last checkpoint, and whether it wasn't
	not  bool
	made int // how often it made the key come or go

	sleeps int // how often it isn't picked, though it is its turn
}

// manyOf are so many threads over a new world of that kind.
func manyOf(t *testing.T, kind string, conf api.Config, threads int) *many {
	m := &many{b: benchOf(t, kind, conf, threads), set: map[uint64]bool{}, retired: map[int]bool{}}
	for _, th := range m.b.threads {
		m.workers = append(m.workers, &worker{many: m, th: th})
	}
	return m
}

// begin is an op of it.
func (p *worker) begin(o api.Op) {
	p.op, p.made = o, 0
	p.b.begin(p.th, o)
	p.since()
}

// goesOn is whether an op of it does.
func (p *worker) goesOn() bool { return p.th.tell != nil }

// since: what was there and what wasn't is asked from here on.
func (p *worker) since() { p.was, p.not = p.set[p.op.Key], !p.set[p.op.Key] }

// step makes its next access, holds the skip list against the keys that are there, and its answer against what was.
func (p *worker) step() {
	row, mine := p.th.tell.row, p.th.tell.mine.Slot
	switch row {
	case "c":
		p.since()
	case "r1", "r2":
		if p.b.isLinked(mine) {
			p.b.t.Fatal(p.b.kind, p.op, "retires", mine, "that is linked")
		}
	}
	over := p.b.step(p.th) == core.Done
	made := p.b.w.all[len(p.b.w.all)-1]
	switch {
	case row == "b":
		p.retired[p.th.tell.who.Slot] = false
	case row == "r2":
		p.retires(mine)
	case made.done && (row == "t" || row == "g2"):
		p.put(row == "t")
	}
	if made.kind != "load" {
		p.right()
	}
	if over {
		p.over()
	}
}

// retires: a slot is retired, for the first time since its birth, and by who deleted it or who put it in.
func (p *worker) retires(slot int) {
	if p.retired[slot] || p.made != 1 {
		p.b.t.Fatal(p.b.kind, p.op, "retires", slot, p.retired[slot], p.made)
	}
	p.retired[slot] = true
	p.b.seen[[]string{"", "raiser", "deleter"}[p.op.Kind]+" retires"]++
}

// put: its key is there now, or isn't.
func (p *worker) put(is bool) {
	if p.set[p.op.Key] == is || is != (p.op.Kind == api.Insert) {
		p.b.t.Fatal(p.b.kind, p.op, "is there already:", is)
	}
	p.made++
	p.set[p.op.Key] = is
	for _, other := range p.workers {
		if other.goesOn() && other.op.Key == p.op.Key {
			other.was, other.not = other.was || is, other.not || !is
		}
	}
}

// right holds that at each level the keys of slots without marks rise, those of the lowest one being those that are there, and that whoever is linked at a level and not marked is at the one below.
func (m *many) right() {
	var want []uint64
	for key, is := range m.set {
		if is {
			want = append(want, key)
		}
	}
	slices.Sort(want)
	if got := m.b.keys(0); !slices.Equal(got, want) {
		m.b.t.Fatal(m.b.kind, "the keys are", got, "not", want)
	}
	below := m.b.live(0)
	for l := 1; l < m.b.conf.Height; l++ {
		live, keys := m.b.live(l), m.b.keys(l)
		for i, s := range live {
			if !slices.Contains(below, s) || i > 0 && keys[i-1] >= keys[i] {
				m.b.t.Fatal(m.b.kind, "at the level", l, "there are", live, keys, "above", below)
			}
		}
		below = live
	}
}

// over holds its answer: it changed something just once, if it is true; else nothing, and the key was there, or it wasn't.
func (p *worker) over() {
	a, changes := p.th.answer, p.op.Kind != api.Has
	right := p.made == 0
	switch {
	case a == refused(api.ErrFull), a == refused(api.ErrEpoch):
		right = right && p.op.Kind == api.Insert && p.not
	case a == yes && changes:
		right = p.made == 1
	case a == yes, a == no && p.op.Kind == api.Insert:
		right = right && p.was
	case a == no:
		right = right && p.not
	default:
		right = false
	}
	if !right {
		p.b.t.Fatal(p.b.kind, p.op, "answers", a, p.made, p.was, p.not)
	}
	p.b.seen[[]string{"", "insert", "delete", "has"}[p.op.Kind]+answer(a)]++
	p.once()
	p.still()
}

// answer is an answer's name.
func answer(a api.Answer) string {
	switch {
	case a.Err != api.OK:
		return " refused"
	case a.Done:
		return " true"
	}
	return " false"
}

// once holds that no slot is at two places: linked at the lowest level without a mark, held, in the pool, or somebody's own; and that what is in the pool, or somebody's own, is linked nowhere.
func (m *many) once() map[int]int {
	at := map[int]int{}
	for _, s := range m.b.live(0) {
		at[s]++
	}
	free := m.pool()
	for _, th := range m.b.threads {
		if th.held.Slot != 0 {
			free = append(free, th.held.Slot)
		}
		for _, e := range th.own {
			free = append(free, e.Slot)
		}
	}
	for _, s := range free {
		at[s]++
		if m.b.isLinked(s) {
			m.b.t.Fatal(m.b.kind, "the slot", s, "is linked, and free:", free)
		}
	}
	for s, n := range at {
		if n > 1 || s < 1 || s > m.b.conf.Slots {
			m.b.t.Fatal(m.b.kind, "the slot", s, "is at", n, "places")
		}
	}
	return at
}

// pool are the slots that are in it.
func (m *many) pool() []int {
	var all []int
	for s := slotOf(m.b.w.World.Peek(poolCell)); s != 0; s = slotOf(m.b.w.World.Peek(part(s, chainPart))) {
		if all = append(all, s); len(all) > m.b.conf.Slots {
			m.b.t.Fatal(m.b.kind, "the pool goes in a circle")
		}
	}
	return all
}

// still holds, if no op goes on, that each slot that was ever taken is somewhere, and those that are linked are linked at all their levels, and marked at none.
func (m *many) still() {
	if slices.ContainsFunc(m.workers, (*worker).goesOn) {
		return
	}
	at := m.once()
	for s := 1; s <= min(m.b.conf.Slots, int(m.b.w.World.Peek(freshCell))); s++ {
		if at[s] != 1 {
			m.b.t.Fatal(m.b.kind, "the slot", s, "is nowhere:", at)
		}
	}
	for l := range m.b.conf.Height {
		want := slices.DeleteFunc(m.b.linked(0), func(s int) bool { return m.b.w.World.Peek(part(s, topPart)) <= uint64(l) })
		if got := m.b.linked(l); !slices.Equal(got, want) || !slices.Equal(got, m.b.live(l)) {
			m.b.t.Fatal(m.b.kind, "at the level", l, "there are", got, m.b.live(l), "not", want)
		}
	}
	m.b.seen["still"]++
}

// goAlone lets its op go on alone, and holds that it ends soon.
func (p *worker) goAlone() {
	p.alone++
	n := 0
	for p.goesOn() {
		p.step()
		if n++; n > alone(p.b.conf) {
			p.b.t.Fatal(p.b.kind, p.op, "alone isn't done behind", n)
		}
	}
}

// give brings a thread's own slots to the pool, all at once.
func (p *worker) give() {
	g := alloc.NewGive(p.th.core)
	for g.Step(p.b.w) == core.Busy {
	}
	p.given += g.Given()
	p.th.epoch, p.th.own = p.th.core.Epoch(), p.th.core.Queue().List()
}

// changes is whether its op is in the middle of its table.
func (p *worker) changes() bool {
	return p.goesOn() && slices.Contains([]string{"s", "t", "u", "v", "y2", "z", "e", "e?", "f", "f?", "f2", "g", "g?", "g2", "h", "r1", "r2"}, p.th.tell.row)
}

// pick is what any of them does next.
func (m *many) pick(x *numbers, keys int) {
	p := one(x, m.workers)
	if p.sleeps > 0 {
		p.sleeps--
		return
	}
	if p.changes() && x.below(4) == 0 {
		// Whoever is about to change something stands still, so that others come between.
		p.sleeps = x.below(60)
		return
	}
	n := x.below(40)
	switch {
	case !p.goesOn() && n < 2:
		p.give()
	case !p.goesOn():
		o := api.Op{Kind: one(x, []int{api.Insert, api.Insert, api.Delete, api.Delete, api.Has}), Key: uint64(1 + x.below(keys))}
		if o.Kind == api.Insert {
			o.Level = 1 + x.below(m.b.conf.Height)
		}
		p.begin(o)
	case n == 0:
		p.goAlone()
	case n < 4:
		for range x.below(100) {
			if p.goesOn() {
				p.step()
			}
		}
	default:
		p.step()
	}
}

// same holds that nothing stale went anywhere, and that all that was made is what was made in the first world.
func (m *many) same(first *[]event) {
	m.b.clean()
	if *first == nil {
		*first = m.b.w.all
	}
	if !slices.Equal(*first, m.b.w.all) {
		m.b.t.Fatal(m.b.kind, "comes to something else")
	}
}

// P19.1 to P19.3: threads that insert, delete and ask, of one skip list with few slots, in any order: behind each step what the tables say, and what is there; an op that goes on alone from wherever it stands ends soon, also at the end, while all others that are in the middle of one stand still; and all worlds come to the same.
func TestMany(t *testing.T) {
	seen := map[string]int{}
	for i := range 96 {
		var first []event
		conf := tall([]int{1, 2, 4, 6, 8, 12}[i%6], []int{1, 2, 3, 4, 2, 16}[i/5%6])
		if i%7 == 5 {
			conf.Limit = 2 + i
		}
		for _, kind := range kinds {
			m := manyOf(t, kind, conf, 2+i%3)
			x := numbers(i)
			for range 5000 {
				m.pick(&x, 1+i%7)
			}
			if m.alone == 0 {
				t.Error(kind, i, "no op went on alone")
			}
			for _, p := range m.workers {
				p.goAlone()
			}
			m.same(&first)
			m.b.count(seen)
			seen["given"] += m.given
		}
	}
	for l := range 2 {
		at := strconv.Itoa(l + 1)
		came(t, seen, "u "+at+", z", "u "+at+", u "+strconv.Itoa(l+2), "u "+at+", c", "u "+at+", v "+strconv.Itoa(l+2), "v "+at+", u "+at, "v "+at+", y2 "+at, "y2 "+at+", u "+at, "f2 "+at+", f "+at)
	}
	came(t, seen,
		"t, z", "t, u 1", "t, c", "z, Done", "z, c", "e?, g", "e?, f 1", "e?, c", "g?, g2", "g?, c", "g2, g", "g2, h", "h, Done", "h, c", "r2, Done",
		"is n", "isn't n", "marked f", "marked g", "invalid e?", "invalid g?", "invalid f? 1", "raiser retires", "deleter retires", "still",
		"drop", "full", "failed a1", "a1, c", "p4, b", "given", "stale x", "stale k", "stale w", "stale e", "stale f", "stale g",
		"insert true", "insert false", "insert refused", "delete true", "delete false", "has true", "has false",
	)
}

// orders calls play once for each row of answers that choose, asked for a number below n, can give.
func orders(play func(choose func(n int) int)) {
	type choice struct{ of, taken int }
	var path []choice
	for {
		at := 0
		play(func(n int) int {
			if at == len(path) {
				path = append(path, choice{of: n})
			}
			at++
			return path[at-1].taken
		})
		for len(path) > 0 && path[len(path)-1].taken+1 == path[len(path)-1].of {
			path = path[:len(path)-1]
		}
		if len(path) == 0 {
			return
		}
		path[len(path)-1].taken++
	}
}

// through plays each worker's ops in one order: whoever goes on goes on, but for as many turns as are left where another one may.
func (m *many) through(ops [][]api.Op, turns int, choose func(n int) int) {
	now := -1
	for {
		var can []int
		for i, p := range m.workers {
			if i != now && (p.goesOn() || len(ops[i]) > 0) {
				can = append(can, i)
			}
		}
		switch {
		case now >= 0 && (m.workers[now].goesOn() || len(ops[now]) > 0):
			if turns > 0 && len(can) > 0 {
				if n := choose(len(can) + 1); n > 0 {
					turns--
					now = can[n-1]
				}
			}
		case len(can) > 0:
			now = can[choose(len(can))]
		default:
			return
		}
		p := m.workers[now]
		if !p.goesOn() {
			p.begin(ops[now][0])
			ops[now] = ops[now][1:]
		}
		p.step()
	}
}

// P19.1 to P19.3: a few ops of two threads, or three, in all orders in which they turn aside a few times.
func TestOrders(t *testing.T) {
	seen := map[string]int{}
	for _, s := range []struct {
		slots, height, turns int
		ahead                []api.Op // of the first thread, ahead of all
		ops                  [][]api.Op
	}{
		{2, 2, 2, nil, [][]api.Op{{insert(5, 2)}, {insert(5, 1)}}},
		{2, 2, 2, nil, [][]api.Op{{insert(5, 2)}, {insert(7, 2)}}},
		{2, 3, 2, nil, [][]api.Op{{insert(5, 3)}, {insert(3, 3)}}},
		{2, 2, 3, nil, [][]api.Op{{insert(5, 2)}, {remove(5)}}},
		{3, 3, 2, []api.Op{insert(3, 2)}, [][]api.Op{{insert(5, 3)}, {remove(5), remove(3)}}},
		{2, 2, 2, []api.Op{insert(5, 2)}, [][]api.Op{{remove(5)}, {remove(5), insert(5, 2)}}},
		{3, 2, 2, []api.Op{insert(3, 2), insert(5, 2)}, [][]api.Op{{remove(5)}, {remove(3), insert(4, 2)}}},
		{3, 3, 2, []api.Op{insert(1, 3), insert(2, 2), insert(3, 3)}, [][]api.Op{{remove(2)}, {remove(1)}}},
		{3, 2, 2, []api.Op{insert(1, 2), insert(3, 1)}, [][]api.Op{{insert(2, 2)}, {remove(1), remove(2)}}},
		{2, 1, 2, nil, [][]api.Op{{insert(1, 1), remove(1), insert(1, 1)}, {insert(2, 1), remove(2), insert(3, 1)}}},
		{1, 2, 2, []api.Op{insert(1, 2)}, [][]api.Op{{has(1)}, {remove(1), insert(1, 1)}}},
		{1, 2, 2, []api.Op{insert(1, 2)}, [][]api.Op{{remove(1)}, {remove(1), insert(1, 2), has(1)}}},
		{2, 2, 2, nil, [][]api.Op{{insert(1, 2), remove(1), insert(1, 2)}, {insert(1, 2), remove(1)}}},
		{2, 2, 2, nil, [][]api.Op{{insert(1, 2)}, {remove(1)}, {insert(1, 2)}}},
		{3, 2, 2, nil, [][]api.Op{{insert(1, 2)}, {insert(1, 2)}, {remove(1), remove(1)}}},
		{3, 2, 2, []api.Op{insert(5, 2)}, [][]api.Op{{remove(5)}, {insert(5, 2)}, {insert(3, 2)}}},
	} {
		for _, kind := range kinds {
			turns := s.turns
			if kind != "ghost" {
				turns--
			}
			orders(func(choose func(n int) int) {
				m := manyOf(t, kind, tall(s.slots, s.height), len(s.ops))
				for _, o := range s.ahead {
					m.workers[0].begin(o)
					m.workers[0].goAlone()
				}
				m.through(slices.Clone(s.ops), turns, choose)
				m.b.clean()
				m.b.count(seen)
			})
		}
	}
	came(t, seen,
		"t, c", "u 1, c", "u 2, c", "u 1, v 2", "v 1, u 1", "v 1, z", "v 1, y2 1", "y2 1, u 1", "v 2, u 2", "v 2, y2 2", "y2 2, u 2", "is n", "isn't n", "z, c", "h, c", "hides",
		"marked f", "marked g", "f2 1, f 1", "g2, g", "raiser retires", "deleter retires", "drop", "full", "failed a1", "stale x", "stale k", "still",
	)
}
