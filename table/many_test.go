package table_test

import (
	"slices"
	"testing"

	"revenant/alloc"
	"revenant/api"
	"revenant/core"
)

// state is whether a key is there, and its value.
type state struct {
	is  bool
	val uint64
}

// many are threads that change one map, and what is there.
type many struct {
	b       *bench
	there   map[uint64]state
	workers []*worker
	alone   int // how often an op went on alone
	given   int // how often a slot was given
}

// worker is one of them, with its op that goes on.
type worker struct {
	*many
	th   *thread
	op   api.Op
	saw  []state // how its key stood, at each time since the last checkpoint
	took []state // how its key stood ahead of each time that it changed it
}

// manyOf are so many threads over a new world of that kind.
func manyOf(t *testing.T, kind string, conf api.Config, threads int) *many {
	m := &many{b: benchOf(t, kind, conf, threads), there: map[uint64]state{}}
	for _, th := range m.b.threads {
		m.workers = append(m.workers, &worker{many: m, th: th})
	}
	return m
}

// begin is an op of it.
func (p *worker) begin(o api.Op) {
	p.op, p.took = o, nil
	p.b.begin(p.th, o)
	p.since()
}

// goesOn is whether an op of it does.
func (p *worker) goesOn() bool { return p.th.tell != nil }

// since: what was there is asked from here on.
func (p *worker) since() { p.saw = []state{p.there[p.op.Key]} }

// step makes its next access, holds the map against what is there, and its answer against what was.
func (p *worker) step() {
	row := p.th.tell.row
	if row == "c" {
		p.since()
	}
	over := p.b.step(p.th) == core.Done
	if done := p.b.w.all[len(p.b.w.all)-1].done; done && (row == "i2" || row == "d1") {
		p.changes(row)
	}
	p.right()
	if over {
		p.over()
	}
}

// changes: by just this swap its key has its value, or is gone.
func (p *worker) changes(row string) {
	was := p.there[p.op.Key]
	if was.is != (row == "d1") || p.op.Kind == api.Get || p.op.Kind == api.Add && was.is || p.op.Kind == api.Remove && !was.is {
		p.b.t.Fatal(p.b.kind, p.op, row, "changes", was)
	}
	p.took = append(p.took, was)
	now := state{p.op.Kind != api.Remove, p.op.Val}
	p.there[p.op.Key] = now
	for _, other := range p.workers {
		if other.goesOn() && other.op.Key == p.op.Key {
			other.saw = append(other.saw, now)
		}
	}
}

// right holds that slots without marks have what is there, each in its bucket, by rising keys.
func (m *many) right() {
	got, n := m.b.pairs(), 0
	for _, s := range m.there {
		if s.is {
			n++
		}
	}
	for _, p := range got {
		if m.there[p.key] != (state{true, p.val}) {
			m.b.t.Fatal(m.b.kind, "the pairs are", got, "not", m.there)
		}
	}
	if len(got) != n {
		m.b.t.Fatal(m.b.kind, "the pairs are", got, "not", m.there)
	}
}

// over holds its answer: what it changed, if anything, it changed once, and tells what was there then; else it tells what was there some time since its last checkpoint.
func (p *worker) over() {
	a, brings := p.th.answer, p.op.Kind == api.Put || p.op.Kind == api.Add
	right := len(p.took) == 0
	switch {
	case a == refused(api.ErrFull), a == refused(api.ErrEpoch):
		right = right && brings && (p.op.Kind == api.Put || p.sawNone())
	case p.op.Kind == api.Put:
		right = p.tookAs(a)
	case p.op.Kind == api.Remove && a.Done:
		right = p.tookAs(a)
	case p.op.Kind == api.Add && a.Done:
		right = a == yes && len(p.took) == 1
	case p.op.Kind == api.Add:
		right = right && slices.Contains(p.saw, state{true, a.Val})
	case a.Done:
		right = right && slices.Contains(p.saw, state{true, a.Val})
	default:
		right = right && a == no && p.sawNone()
	}
	if right = right && (a.Err == api.OK || a == refused(a.Err)); !right {
		p.b.t.Fatal(p.b.kind, p.op, "answers", a, p.took, p.saw)
	}
	p.b.seen[[]string{"put", "add", "remove", "get"}[p.op.Kind-api.Put]+answer(a)]++
	p.once()
}

// sawNone is whether its key wasn't there, some time since the last checkpoint.
func (p *worker) sawNone() bool { return slices.Contains(p.saw, state{}) }

// tookAs is whether it changed its key once, and tells how that stood ahead of it.
func (p *worker) tookAs(a api.Answer) bool {
	return len(p.took) == 1 && a == (api.Answer{Done: p.took[0].is, Val: p.took[0].val})
}

// answer is an answer's name.
func answer(a api.Answer) string {
	switch {
	case a.Err != api.OK:
		return " refused"
	case a.Done:
		return " true"
	}
	return " false"
}

// once holds that no slot is at two places: linked without a mark, held, or somebody's own.
func (m *many) once() {
	at := map[int]int{}
	for root := range m.b.conf.Buckets {
		for _, s := range m.b.linked(root) {
			if !m.b.isOut(s) {
				at[s]++
			}
		}
	}
	for _, th := range m.b.threads {
		if th.held.Slot != 0 {
			at[th.held.Slot]++
		}
		for _, e := range th.own {
			at[e.Slot]++
		}
	}
	for s, n := range at {
		if n > 1 || s < 1 || s > m.b.conf.Slots {
			m.b.t.Fatal(m.b.kind, "the slot", s, "is at", n, "places")
		}
	}
}

// goAlone lets its op go on alone, and holds that it ends soon.
func (p *worker) goAlone() {
	p.alone++
	n := 0
	for p.goesOn() {
		p.step()
		if n++; n > alone(p.b.conf) {
			p.b.t.Fatal(p.b.kind, p.op, "alone isn't done behind", n)
		}
	}
}

// give brings a thread's own slots to the pool, all at once.
func (p *worker) give() {
	g := alloc.NewGive(p.th.core)
	for g.Step(p.b.w) == core.Busy {
	}
	p.given += g.Given()
	p.th.epoch, p.th.own = p.th.core.Epoch(), p.th.core.Queue().List()
}

// pick is what any of them does next.
func (m *many) pick(x *numbers, keys int) {
	p := one(x, m.workers)
	n := x.below(40)
	switch {
	case !p.goesOn() && n == 0:
		p.give()
	case !p.goesOn():
		o := api.Op{Kind: one(x, []int{api.Put, api.Put, api.Put, api.Add, api.Remove, api.Remove, api.Get}), Key: uint64(1 + x.below(keys))}
		if o.Kind == api.Put || o.Kind == api.Add {
			o.Val = uint64(x.below(100))
		}
		p.begin(o)
	case n == 0:
		p.goAlone()
	case n < 4:
		for range x.below(40) {
			if p.goesOn() {
				p.step()
			}
		}
	default:
		p.step()
	}
}

// same holds that nothing stale went anywhere, and that all that was made is what was made in the first world.
func (m *many) same(first *[]event) {
	m.b.clean()
	if *first == nil {
		*first = m.b.w.all
	}
	if !slices.Equal(*first, m.b.w.all) {
		m.b.t.Fatal(m.b.kind, "comes to something else")
	}
}

// P17.1 to P17.3: threads that put, add, remove and get, of one map with few slots, in any order: behind each step what the tables say, and what is there; an op that goes on alone from wherever it stands ends soon, also at the end, while all others that are in the middle of one stand still; and all worlds come to the same.
func TestMany(t *testing.T) {
	seen := map[string]int{}
	for i := range 96 {
		var first []event
		conf := hash(1+i%5, []int{1, 2, 1, 64}[i/5%4])
		if i%6 == 5 {
			conf.Limit = 2 + i%7
		}
		for _, kind := range kinds {
			m := manyOf(t, kind, conf, 1+i%4)
			x := numbers(i)
			for range 2500 {
				m.pick(&x, 1+i%5)
			}
			if m.alone == 0 {
				t.Error(kind, i, "no op went on alone")
			}
			for _, p := range m.workers {
				p.goAlone()
			}
			m.same(&first)
			m.b.count(seen)
			seen["given"] += m.given
		}
	}
	came(t, seen,
		"i2 Done", "i2 c", "u1 d1", "d1 c", "d2 r1", "d2 c", "w? r1", "k? r1", "cut x", "cut c", "drop", "full", "failed a1", "a1 c", "p4 b", "given",
		"put true", "put false", "put refused", "add true", "add false", "add refused", "remove true", "remove false", "get true", "get false", "stale x", "stale k", "stale v",
	)
}

// orders calls play once for each row of answers that choose, asked for a number below n, can give.
func orders(play func(choose func(n int) int)) {
	type choice struct{ of, taken int }
	var path []choice
	for {
		at := 0
		play(func(n int) int {
			if at == len(path) {
				path = append(path, choice{of: n})
			}
			at++
			return path[at-1].taken
		})
		for len(path) > 0 && path[len(path)-1].taken+1 == path[len(path)-1].of {
			path = path[:len(path)-1]
		}
		if len(path) == 0 {
			return
		}
		path[len(path)-1].taken++
	}
}

// through plays each worker's ops in one order: whoever goes on goes on, but for as many turns as are left where another one may.
func (m *many) through(ops [][]api.Op, turns int, choose func(n int) int) {
	now := -1
	for {
		var can []int
		for i, p := range m.workers {
			if i != now && (p.goesOn() || len(ops[i]) > 0) {
				can = append(can, i)
			}
		}
		switch {
		case now >= 0 && (m.workers[now].goesOn() || len(ops[now]) > 0):
			if turns > 0 && len(can) > 0 {
				if n := choose(len(can) + 1); n > 0 {
					turns--
					now = can[n-1]
				}
			}
		case len(can) > 0:
			now = can[choose(len(can))]
		default:
			return
		}
		p := m.workers[now]
		if !p.goesOn() {
			p.begin(ops[now][0])
			ops[now] = ops[now][1:]
		}
		p.step()
	}
}

// P17.1 to P17.3: a few ops of two threads, or three, in all orders in which they turn aside a few times.
func TestOrders(t *testing.T) {
	seen := map[string]int{}
	for _, s := range []struct {
		slots, turns int
		ahead        []api.Op // of the first thread, ahead of all
		ops          [][]api.Op
	}{
		{2, 2, nil, [][]api.Op{{put(5, 1)}, {put(5, 2)}}},
		{2, 3, nil, [][]api.Op{{add(5, 1)}, {put(5, 2)}}},
		{3, 2, []api.Op{put(5, 1)}, [][]api.Op{{put(5, 2)}, {put(5, 3)}}},
		{3, 2, []api.Op{put(5, 1)}, [][]api.Op{{put(5, 2), get(5)}, {remove(5), add(5, 3)}}},
		{2, 3, []api.Op{put(5, 1)}, [][]api.Op{{get(5)}, {put(5, 2), put(5, 3)}}},
		{4, 2, []api.Op{put(1, 1), put(3, 3)}, [][]api.Op{{put(3, 4)}, {remove(1), put(2, 2)}}},
		{4, 2, []api.Op{put(1, 1), put(2, 2)}, [][]api.Op{{put(2, 3)}, {put(1, 4), remove(2)}}},
		{3, 2, []api.Op{put(1, 1), put(2, 2)}, [][]api.Op{{put(2, 3), remove(2)}, {remove(1), add(2, 4)}}},
		{1, 3, []api.Op{put(1, 1)}, [][]api.Op{{remove(1)}, {put(1, 2), remove(1), get(1)}}},
		{2, 2, nil, [][]api.Op{{put(1, 1), remove(1), put(1, 3)}, {add(2, 4), remove(2), put(3, 5)}}},
		{3, 2, nil, [][]api.Op{{put(1, 1), put(1, 2), put(1, 3)}, {add(2, 4), remove(2)}}},
		{4, 2, []api.Op{put(5, 1)}, [][]api.Op{{put(5, 2)}, {put(5, 3)}, {remove(5)}}},
		{4, 2, []api.Op{put(5, 1)}, [][]api.Op{{remove(5)}, {add(5, 3)}, {put(5, 4)}}},
	} {
		for _, kind := range kinds {
			turns := s.turns
			if kind != "ghost" {
				turns--
			}
			orders(func(choose func(n int) int) {
				m := manyOf(t, kind, hash(s.slots, 1), len(s.ops))
				for _, o := range s.ahead {
					m.workers[0].begin(o)
					m.workers[0].goAlone()
				}
				m.through(slices.Clone(s.ops), turns, choose)
				m.b.clean()
				m.b.count(seen)
			})
		}
	}
	came(t, seen, "i2 c", "d1 c", "d2 c", "w? r1", "k? r1", "cut x", "cut Done", "cut c", "drop", "full", "failed a1", "stale x", "stale k", "stale v")
}
