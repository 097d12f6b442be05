package ghost_test

import (
	"math"
	"slices"
	"testing"

	"revenant/api"
	"revenant/cell"
	"revenant/ghost"
	"revenant/place"
	"revenant/soul"
	"revenant/world"
)

// words are words, the ends of 64 bits among them.
var words = []uint64{0, 1, 2, 5, 255, 1<<32 - 1, 1 << 32, 1<<63 - 1, 1 << 63, 1<<63 + 1, math.MaxUint64 - 1, math.MaxUint64}

// ids are numbers as an Id, below 0 and the ends of int among them; many are alike in their low bits.
var ids = []int{0, 1, 2, 3, 7, -1, -2, 256, 257, 1 << 31, 1 << 32, 1<<32 + 1, 1<<32 + 2, math.MaxInt, math.MinInt, math.MinInt + 1}

// slots are slots, and numbers that can't be one, the ends of int among them.
var slots = []int{1, 2, 3, 257, api.MaxSlots, api.MaxSlots + 1, 1<<32 + 1, math.MaxInt - 1, math.MaxInt, 0, -1, -2, -1 << 32, math.MinInt, math.MinInt + 1}

// shared are places that are no slot's cell, those that can't be too: whoever is told as who the slot is, a reference to one is never stale.
var shared = []api.Place{
	place.Epoch(), place.Pool(), place.Fresh(), place.Root(0), place.Root(63),
	{}, {Slot: 1}, {Kind: 1, Slot: 1}, {Kind: 2, Slot: 1, Part: 3}, {Kind: 3, Slot: 2}, {Kind: 4, Slot: 1, Part: 3}, {Kind: 4, Slot: 2, Part: -1},
	{Kind: 6, Slot: 1}, {Kind: 6, Slot: 2, Part: 3}, {Kind: 7, Slot: 1}, {Kind: 13, Slot: 1}, {Kind: -5, Slot: 1}, {Kind: -1, Slot: -1, Part: -1}, {Kind: 261, Slot: 1}, {Kind: 1<<32 + 5, Slot: 1},
	{Kind: math.MinInt, Slot: math.MaxInt, Part: math.MinInt}, {Kind: math.MaxInt, Slot: 1, Part: math.MaxInt},
}

// parts are all the parts of a slot, and some that can't be.
var parts = []int{place.Birth, place.Retire, place.Chain, place.Key, place.Val, place.Top, place.State, place.Next, place.Next + 1, place.Next + 15, place.Next + 16, -1, 1<<32 + 3, math.MaxInt, math.MinInt}

// places are places of each kind, few enough that a row of accesses comes to each of them often.
var places = []api.Place{
	place.Epoch(), place.Fresh(), place.Root(0),
	place.Of(1, place.Retire), place.Of(1, place.Key), place.Link(1, 0), place.Of(2, place.Key), place.Of(3, place.Key), place.Link(3, 2), place.Of(3, -1),
	{}, {Kind: 6, Slot: 1}, {Kind: 5}, {Kind: 5, Slot: -1, Part: 3}, {Kind: 5, Slot: math.MaxInt, Part: math.MinInt},
}

// numbers are numbers that look like any, always the same.
type numbers uint64

// below is the next one, below n.
func (x *numbers) below(n int) int {
	*x = *x*6364136223846793005 + 1442695040888963407
	return int(*x>>33) % n
}

// one is one of a list.
func one[T any](x *numbers, list []T) T { return list[x.below(len(list))] }

// val is a word with any Id, and sometimes stale.
func (x *numbers) val(word uint64) world.Val {
	return world.Val{Word: word, Id: one(x, ids), Stale: x.below(4) == 0}
}

// plain is the value of a word that leads to nobody.
func plain(word uint64) world.Val { return world.Val{Word: word} }

// lead is the value of a word that leads to somebody.
func lead(word uint64, id int) world.Val { return world.Val{Word: word, Id: id} }

// ref is the reference to a place without an Id.
func ref(p api.Place) world.At { return world.At{Place: p} }

// by is the reference to a place of a slot that was somebody.
func by(p api.Place, id int) world.At { return world.At{Place: p, Id: id} }

// model is what the document says of a ghost world, as plainly as it can be.
type model struct {
	cells  *cell.Cells
	leads  map[api.Place]int
	births []int
	stale  int
	faults int
}

// newModel is one in which nothing was done.
func newModel() *model { return &model{cells: cell.New(), leads: map[api.Place]int{}} }

// now is who a slot is.
func (m *model) now(slot int) int {
	for i := len(m.births); i > 0; i-- {
		if m.births[i-1] == slot {
			return i
		}
	}
	return 0
}

// isStale: whether a reference is.
func (m *model) isStale(a world.At) bool { return a.Place.Kind == 5 && m.now(a.Place.Slot) != a.Id }

func (m *model) load(a world.At) world.Val {
	stale := m.isStale(a)
	if stale {
		m.stale++
	}
	return world.Val{Word: m.cells.Load(a.Place), Id: m.leads[a.Place], Stale: stale}
}

func (m *model) store(a world.At, v world.Val) {
	m.cells.Store(a.Place, v.Word)
	m.leads[a.Place] = v.Id
	if m.isStale(a) || v.Stale {
		m.faults++
	}
}

func (m *model) swap(a world.At, old, new world.Val) bool {
	if !m.cells.Swap(a.Place, old.Word, new.Word) {
		return false
	}
	m.leads[a.Place] = new.Id
	if m.isStale(a) || old.Stale || new.Stale {
		m.faults++
	}
	return true
}

func (m *model) born(slot int) int {
	if slot < 1 {
		return 0
	}
	m.births = append(m.births, slot)
	return len(m.births)
}

// check holds all that a ghost tells without an access against the model.
func check(t *testing.T, g *ghost.Ghost, m *model) {
	t.Helper()
	if g.Stale() != m.stale || g.Faults() != m.faults {
		t.Fatal("Stale, Faults", g.Stale(), m.stale, g.Faults(), m.faults)
	}
	for _, p := range append(m.cells.Places(), places...) {
		if got, want := g.Peek(p), m.cells.Peek(p); got != want {
			t.Fatal("Peek", p, got, want)
		}
	}
	c := g.Cells()
	if c == nil || !cell.Same(c, m.cells) || !slices.Equal(c.Places(), m.cells.Places()) || c.Count() != (cell.Count{}) {
		t.Fatal("Cells", c.Places(), m.cells.Places(), c.Count())
	}
	s := g.Souls()
	if s == nil || s != g.Souls() || s.Count() != len(m.births) {
		t.Fatal("Souls", s.Count(), len(m.births))
	}
	for i, slot := range m.births {
		if s.SlotOf(i+1) != slot || s.Now(slot) != m.now(slot) {
			t.Fatal("Souls", i+1, slot, s.SlotOf(i+1), s.Now(slot), m.now(slot))
		}
	}
	for _, slot := range slots {
		if s.Now(slot) != m.now(slot) {
			t.Fatal("Souls", slot, s.Now(slot), m.now(slot))
		}
	}
	if g.Count() != m.cells.Count() || g.Stale() != m.stale || g.Faults() != m.faults {
		t.Fatal("Count", g.Count(), m.cells.Count(), g.Stale(), m.stale, g.Faults(), m.faults)
	}
}

// loads loads each of the places by any Id, and holds what is answered against the model.
func loads(t *testing.T, g *ghost.Ghost, m *model, places []api.Place) {
	t.Helper()
	for _, p := range places {
		for _, id := range append([]int{m.now(p.Slot)}, ids...) {
			if got, want := g.Load(by(p, id)), m.load(by(p, id)); got != want {
				t.Fatal("Load", p, id, got, want)
			}
		}
	}
}

// peopled is a ghost with four births in three slots (2 was 1, and is 4), a word that leads to somebody at each of the places, and its model.
func peopled() (*ghost.Ghost, *model) {
	g, m := ghost.New(), newModel()
	for _, slot := range []int{2, 1, math.MaxInt, 2} {
		g.Born(slot)
		m.born(slot)
	}
	for i, p := range places {
		a := by(p, m.now(p.Slot))
		g.Store(a, lead(uint64(i)+100, i+50))
		m.store(a, lead(uint64(i)+100, i+50))
	}
	return g, m
}

// The example: a slot is born (1), and again (2): a load of its cell by a reference with the Id 1 is stale.
func TestExample(t *testing.T) {
	g := ghost.New()
	p := place.Of(5, place.Key)
	if g.Born(5) != 1 || g.Load(by(p, 1)).Stale || g.Stale() != 0 {
		t.Error("born once")
	}
	if g.Born(5) != 2 || !g.Load(by(p, 1)).Stale || g.Stale() != 1 {
		t.Error("born again", g.Stale())
	}
	if g.Load(by(p, 2)).Stale || g.Stale() != 1 || g.Faults() != 0 {
		t.Error("who it is", g.Stale(), g.Faults())
	}
}

// P8.1, P8.2: New has nothing stored and nobody born, and each New is another one.
func TestNew(t *testing.T) {
	g := ghost.New()
	if g == nil {
		t.Fatal("nil")
	}
	check(t, g, newModel())
	if len(g.Cells().Places()) != 0 || len(g.Souls().Slots()) != 0 || g.Souls().Count() != 0 || g.Count() != (cell.Count{}) {
		t.Error(g.Cells().Places(), g.Souls().Slots(), g.Count())
	}
	m := newModel()
	loads(t, g, m, append(shared, places...))
	check(t, g, m)
	other := ghost.New()
	if other == g || other.Souls() == g.Souls() {
		t.Fatal("two of New are one")
	}
	other.Born(1)
	other.Store(by(place.Of(1, 3), 0), world.Val{Word: 7, Id: 8, Stale: true})
	other.Load(by(place.Of(1, 3), 0))
	check(t, g, m)
	loads(t, g, m, places)
	if other.Stale() != 1 || other.Faults() != 1 || other.Souls().Count() != 1 {
		t.Error(other.Stale(), other.Faults(), other.Souls().Count())
	}
}

// P8.1: what is stored is answered with its Id, whatever Ids the references have, and whether what was stored was stale is not.
func TestStore(t *testing.T) {
	for _, p := range places {
		g, m := peopled()
		for _, word := range words {
			for _, id := range ids {
				for k, at := range []int{m.now(p.Slot), id, 1} {
					v := world.Val{Word: word, Id: id, Stale: k == 1}
					g.Store(by(p, at), v)
					m.store(by(p, at), v)
					if got := g.Load(by(p, m.now(p.Slot))); got != m.load(by(p, m.now(p.Slot))) || got != lead(word, id) {
						t.Fatal(p, at, v, got)
					}
				}
			}
			loads(t, g, m, []api.Place{p})
			check(t, g, m)
		}
		loads(t, g, m, places)
	}
}

// P8.1: a swap goes by the words alone: neither the Ids nor what is stale plays a part in whether it is done.
func TestSwapWords(t *testing.T) {
	for _, p := range []api.Place{place.Root(1), place.Link(2, 1), place.Of(3, place.Chain)} {
		for _, there := range words {
			for _, old := range words {
				for _, new := range words {
					g, m := peopled()
					a := by(p, m.now(p.Slot))
					g.Store(a, lead(there, 5))
					m.store(a, lead(there, 5))
					m.swap(a, lead(old, 6), lead(new, 7))
					if done := g.Swap(a, lead(old, 6), lead(new, 7)); done != (there == old) {
						t.Fatal(p, there, old, new, done)
					}
					if got, want := g.Load(a), m.load(a); got != want {
						t.Fatal(p, there, old, new, got, want)
					}
					check(t, g, m)
				}
			}
		}
	}
}

// P8.1, P8.2: of whatever Ids, and whatever is stale: a swap of another word does nothing and is no fault, one of the word that is there is done, and one fault at most.
func TestSwapIds(t *testing.T) {
	for _, p := range []api.Place{place.Root(2), place.Link(2, 0)} {
		for _, at := range append([]int{4}, ids...) {
			for _, stored := range []int{0, 1, 4, -1, math.MinInt} {
				for _, old := range []int{0, 1, 4, -1, math.MaxInt} {
					for _, new := range ids {
						for k := range 8 {
							g, m := peopled()
							first := world.Val{Word: 4, Id: stored, Stale: k&1 != 0}
							a, o, n := by(p, at), world.Val{Word: 4, Id: old, Stale: k&2 != 0}, world.Val{Word: 9, Id: new, Stale: k&4 != 0}
							g.Store(by(p, 4), first)
							m.store(by(p, 4), first)
							if g.Swap(a, n, o) || m.swap(a, n, o) || g.Faults() != m.faults || g.Load(by(p, 4)) != m.load(by(p, 4)) {
								t.Fatal("another word was swapped", a, o, n)
							}
							if !g.Swap(a, o, n) || !m.swap(a, o, n) || g.Load(by(p, 4)) != m.load(by(p, 4)) {
								t.Fatal("the word that is there wasn't swapped", a, o, n)
							}
							if g.Faults() != m.faults || g.Stale() != m.stale || g.Count() != m.cells.Count() {
								t.Fatal(a, o, n, g.Faults(), m.faults, g.Stale(), m.stale, g.Count())
							}
						}
					}
				}
			}
		}
	}
}

// P8.1: a swap of a cell where nothing was stored is one of the word 0, that leads to nobody.
func TestSwapNothing(t *testing.T) {
	for _, p := range append(shared, places...) {
		g, m := ghost.New(), newModel()
		if g.Swap(ref(p), lead(1, 3), lead(2, 4)) || m.swap(ref(p), lead(1, 3), lead(2, 4)) {
			t.Error(p)
		}
		check(t, g, m)
		if g.Load(ref(p)) != m.load(ref(p)) {
			t.Error(p, "a swap that wasn't done left something")
		}
		if !g.Swap(ref(p), lead(0, 8), lead(math.MaxUint64, 4)) || !m.swap(ref(p), lead(0, 8), lead(math.MaxUint64, 4)) {
			t.Error(p)
		}
		loads(t, g, m, []api.Place{p})
		check(t, g, m)
	}
}

// P8.1: the Id that a load answers is that of what was stored, or swapped in, there last: step by step.
func TestLoadId(t *testing.T) {
	for _, p := range []api.Place{place.Root(0), place.Of(2, place.Retire), place.Link(2, 0), {Kind: 9, Slot: -1}} {
		g, m := peopled()
		a := by(p, m.now(p.Slot))
		for i, s := range []struct {
			do   func()
			want world.Val
		}{
			{func() { g.Store(a, plain(0)) }, plain(0)},
			{func() { g.Store(a, lead(5, 1)) }, lead(5, 1)},
			{func() { g.Store(a, lead(5, 2)) }, lead(5, 2)},
			{func() { g.Add(a, 3) }, lead(8, 2)},
			{func() { g.Add(a, 0) }, lead(8, 2)},
			{func() { g.Swap(a, lead(7, 2), lead(9, 3)) }, lead(8, 2)},
			{func() { g.Swap(a, lead(7, 2), lead(8, 0)) }, lead(8, 2)},
			{func() { g.Swap(a, plain(8), lead(9, 3)) }, lead(9, 3)},
			{func() { g.Swap(a, lead(9, 77), lead(9, 4)) }, lead(9, 4)},
			{func() { g.Add(a, math.MaxUint64-8) }, lead(0, 4)},
			{func() { g.Swap(a, plain(0), lead(0, -6)) }, lead(0, -6)},
			{func() { g.Swap(a, plain(0), plain(2)) }, plain(2)},
			{func() { g.Add(a, 2) }, plain(4)},
			{func() { g.Store(a, lead(0, math.MinInt)) }, lead(0, math.MinInt)},
			{func() { g.Add(a, math.MaxUint64) }, lead(math.MaxUint64, math.MinInt)},
			{func() { g.Store(a, world.Val{Id: 6, Stale: true}) }, lead(0, 6)},
			{func() { g.Swap(a, world.Val{Stale: true}, world.Val{Word: 3, Id: 7, Stale: true}) }, lead(3, 7)},
			{func() { g.Store(by(p, 1), lead(4, 8)) }, lead(4, 8)},
			{func() { g.Swap(by(p, 1), plain(4), lead(5, 9)) }, lead(5, 9)},
			{func() { g.Add(by(p, 1), 1) }, lead(6, 9)},
			{func() { g.Born(1); g.Peek(p); g.Cells(); g.Load(by(p, 1)) }, lead(6, 9)},
			{func() { g.Store(a, plain(6)) }, plain(6)},
		} {
			s.do()
			if v := g.Load(a); v != s.want {
				t.Error(p, i, v, s.want)
			}
		}
	}
}

// P8.1, P4.3: whom a word leads to is told of its own cell alone.
func TestLoadIdApart(t *testing.T) {
	all := append(append([]api.Place{}, shared...), places[3:10]...)
	for i, p := range all {
		g := ghost.New()
		for j, q := range all {
			g.Store(ref(q), lead(uint64(j), j+1))
		}
		g.Store(ref(p), lead(90, 91))
		g.Swap(ref(p), plain(90), lead(92, 93))
		for j, q := range all {
			want := lead(uint64(j), j+1)
			if i == j {
				want = lead(92, 93)
			}
			if v := g.Load(ref(q)); v != want {
				t.Error(p, q, v, want)
			}
		}
	}
}

// P8.1: Add answers what was there, and goes round 2^64, whoever the reference is to; it is no fault.
func TestAdd(t *testing.T) {
	p := place.Of(2, place.State)
	for _, there := range words {
		for _, n := range words {
			g, m := peopled()
			g.Store(by(p, 4), lead(there, 3))
			m.store(by(p, 4), lead(there, 3))
			for _, id := range []int{4, 1, 0, -1} {
				if got, want := g.Add(by(p, id), n), m.cells.Add(p, n); got != want {
					t.Fatal(there, n, id, got, want)
				}
				check(t, g, m)
			}
			if v := g.Load(by(p, 4)); v != m.load(by(p, 4)) || v != lead(there+4*n, 3) || g.Faults() != 0 {
				t.Fatal(there, n, v, g.Faults())
			}
			check(t, g, m)
		}
	}
}

// P8.1: a reference to a slot's cell, whichever part it is, is stale but with the Id of who the slot is: who it was, who another one is, nobody, and any other number are.
func TestStaleWho(t *testing.T) {
	for _, part := range parts {
		for _, slot := range slots {
			p := place.Of(slot, part)
			g, m := ghost.New(), newModel()
			for _, b := range []int{0, slot, 44, slot, slot, 45} {
				if got, want := g.Born(b), m.born(b); got != want {
					t.Fatal(b, got, want)
				}
				for _, id := range append([]int{4, 5, 6}, ids...) {
					stale := id != m.now(slot)
					if v := g.Load(by(p, id)); v.Stale != stale || v != m.load(by(p, id)) {
						t.Fatal(p, b, id, v, stale)
					}
				}
				check(t, g, m)
			}
		}
	}
}

// P8.1: in a slot in which nobody was born a reference is stale but with the Id 0, wherever else some were; behind a birth it is with 0.
func TestStaleNobody(t *testing.T) {
	for _, slot := range slots {
		g := ghost.New()
		g.Born(77)
		p := place.Of(slot, place.Key)
		for _, id := range ids {
			if v := g.Load(by(p, id)); v.Stale != (id != 0) {
				t.Error(slot, id, v)
			}
		}
		born := g.Born(slot)
		if v := g.Load(ref(p)); v.Stale != (born != 0) {
			t.Error(slot, born, v)
		}
		if v := g.Load(by(p, born)); v.Stale {
			t.Error(slot, born, v)
		}
	}
}

// P8.1, P8.2: references to all other places are never stale, whatever their Ids and Slots: nothing is counted.
func TestNeverStale(t *testing.T) {
	for _, p := range shared {
		g, _ := peopled()
		for _, id := range ids {
			if v := g.Load(by(p, id)); v.Stale {
				t.Error(p, id, v)
			}
			was := g.Peek(p)
			g.Store(by(p, id), plain(was+1))
			if !g.Swap(by(p, id), plain(was+1), plain(was+2)) || g.Swap(by(p, id), plain(was+1), plain(was)) {
				t.Error(p, id)
			}
			g.Add(by(p, id), 3)
		}
		if g.Stale() != 0 || g.Faults() != 0 {
			t.Error(p, g.Stale(), g.Faults())
		}
	}
}

// P8.2: each stale load is counted, one by one, and is no fault; no other access is one, nor a Peek.
func TestStale(t *testing.T) {
	p, q := place.Link(2, 0), place.Root(0)
	g, _ := peopled()
	for i, s := range []struct {
		do   func()
		want int
	}{
		{func() { g.Load(by(p, 4)) }, 0},
		{func() { g.Load(by(p, 1)) }, 1},
		{func() { g.Load(by(p, 1)) }, 2},
		{func() { g.Load(ref(p)) }, 3},
		{func() { g.Load(by(p, -4)); g.Load(by(p, 4)) }, 4},
		{func() { g.Load(by(q, 1)) }, 4},
		{func() {
			g.Peek(p)
			g.Cells()
			g.Souls()
			g.Count()
			g.Stale()
			g.Faults()
		}, 4},
		{func() { g.Add(by(p, 1), 2) }, 4},
		{func() { g.Swap(by(p, 1), plain(g.Peek(p)+1), plain(3)) }, 4},
		{func() { g.Born(2); g.Born(0) }, 4},
		{func() { g.Load(by(p, 4)) }, 5},
		{func() { g.Load(by(p, 5)) }, 5},
	} {
		s.do()
		if g.Stale() != s.want || g.Faults() != 0 {
			t.Error(i, g.Stale(), s.want, g.Faults())
		}
	}
	g.Store(by(p, 1), plain(1))
	g.Swap(by(p, 1), plain(1), plain(2))
	g.Store(by(p, 5), world.Val{Word: 1, Stale: true})
	if g.Stale() != 5 || g.Faults() != 3 {
		t.Error("a fault is no stale load", g.Stale(), g.Faults())
	}
}

// P8.2: a store is a fault of a value that is stale, or by a reference that is; for each of its reasons alone one fault, and for both one.
func TestFaultStore(t *testing.T) {
	p, q := place.Of(2, place.Val), place.Root(0)
	for i, s := range []struct {
		at    world.At
		stale bool
		want  int
	}{
		{by(p, 4), false, 0}, {by(p, 4), true, 1}, {by(p, 1), false, 1}, {by(p, 1), true, 1},
		{by(p, 0), false, 1}, {by(p, 2), false, 1}, {by(p, -4), false, 1}, {by(p, 1<<32+4), false, 1},
		{ref(q), false, 0}, {ref(q), true, 1}, {by(q, 1), false, 0}, {by(q, 1), true, 1},
		{ref(place.Of(9, 3)), false, 0}, {ref(place.Of(9, 3)), true, 1}, {by(place.Of(9, 3), 1), false, 1}, {by(place.Of(9, 3), -1), false, 1},
		{by(place.Of(2, place.Retire), 1), false, 1}, {by(place.Of(2, place.Chain), 1), false, 1}, {by(place.Of(2, place.Birth), 1), false, 1},
		{ref(place.Of(0, 3)), false, 0}, {by(place.Of(0, 3), 1), false, 1}, {ref(place.Of(-1, 3)), false, 0}, {by(place.Of(-1, 3), -1), false, 1},
		{by(place.Of(2, -1), 4), false, 0}, {by(place.Of(2, -1), 1), false, 1},
	} {
		for _, word := range words {
			for _, id := range ids {
				g, _ := peopled()
				g.Store(s.at, world.Val{Word: word, Id: id, Stale: s.stale})
				g.Store(s.at, world.Val{Word: word, Id: id, Stale: s.stale})
				if g.Faults() != 2*s.want || g.Stale() != 0 {
					t.Error(i, s.at, word, id, g.Faults(), s.want, g.Stale())
				}
			}
		}
	}
}

// P8.2: a swap that is done is a fault of a value that is stale, the old one or the new one, or by a reference that is; for each of its reasons alone, and for any of them, one fault. A swap that isn't done is none.
func TestFaultSwap(t *testing.T) {
	for _, p := range []api.Place{place.Of(2, place.Val), place.Link(2, 3), place.Of(2, place.Chain), place.Root(5)} {
		for _, at := range append([]int{4}, ids...) {
			for k := range 4 {
				for _, there := range words {
					g, _ := peopled()
					g.Store(by(p, 4), plain(there))
					old, new := world.Val{Word: there, Stale: k&1 != 0}, world.Val{Word: there + 1, Stale: k&2 != 0}
					if g.Swap(by(p, at), world.Val{Word: there + 1, Stale: k&1 != 0}, new) || g.Faults() != 0 {
						t.Fatal("a swap that isn't done", p, at, k, there, g.Faults())
					}
					want := 0
					if k != 0 || p.Kind == 5 && at != 4 {
						want = 1
					}
					if !g.Swap(by(p, at), old, new) || g.Faults() != want || g.Stale() != 0 {
						t.Fatal(p, at, k, there, g.Faults(), want, g.Stale())
					}
				}
			}
		}
	}
}

// P8.2: faults are counted one by one; what is stored behind a fault is there as all else is, and a later store isn't one because of it.
func TestFaults(t *testing.T) {
	p, q := place.Of(1, place.Key), place.Root(0)
	g := ghost.New()
	g.Born(1)
	stale := world.Val{Word: 3, Id: 6, Stale: true}
	for i, s := range []struct {
		do   func()
		want int
	}{
		{func() { g.Store(by(p, 1), lead(2, 1)) }, 0},
		{func() { g.Store(by(p, 1), stale) }, 1},
		{func() { g.Store(ref(q), g.Load(by(p, 1))) }, 1},
		{func() { g.Swap(ref(q), stale, lead(4, 2)) }, 2},
		{func() { g.Swap(ref(q), stale, lead(5, 2)) }, 2},
		{func() { g.Swap(ref(q), lead(4, 2), stale) }, 3},
		{func() { g.Add(by(p, 2), 1) }, 3},
		{func() { g.Load(by(p, 2)) }, 3},
		{func() { g.Born(1) }, 3},
		{func() { g.Store(by(p, 2), lead(2, 1)) }, 3},
		{func() { g.Store(by(p, 1), lead(2, 1)) }, 4},
		{func() { g.Swap(by(p, 1), lead(2, 1), lead(7, 1)) }, 5},
		{func() { g.Swap(by(p, 1), lead(2, 1), lead(7, 1)) }, 5},
		{func() { g.Store(ref(q), g.Load(by(p, 1))) }, 6},
		{func() { g.Store(ref(q), g.Load(by(p, 2))) }, 6},
		{func() { g.Peek(p); g.Cells().Store(p, 1); g.Souls(); g.Count(); g.Stale() }, 6},
	} {
		s.do()
		if g.Faults() != s.want {
			t.Error(i, g.Faults(), s.want)
		}
	}
	if v := g.Load(by(p, 2)); v != lead(7, 1) || g.Stale() != 2 {
		t.Error(v, g.Stale())
	}
}

// P8.1: each access is counted as what it is, stale or not, a fault or not, and nothing else is counted.
func TestCount(t *testing.T) {
	p := place.Of(1, place.Top)
	g := ghost.New()
	stale := world.Val{Word: 4, Id: 3, Stale: true}
	for i, s := range []struct {
		do   func()
		want cell.Count
	}{
		{func() { g.Load(ref(p)) }, cell.Count{Loads: 1}},
		{func() { g.Load(by(p, 1)) }, cell.Count{Loads: 2}},
		{func() { g.Peek(p) }, cell.Count{Loads: 2}},
		{func() { g.Store(ref(p), plain(4)) }, cell.Count{Loads: 2, Stores: 1}},
		{func() { g.Store(by(p, 2), stale) }, cell.Count{Loads: 2, Stores: 2}},
		{func() { g.Swap(ref(p), plain(4), plain(6)) }, cell.Count{Loads: 2, Stores: 2, Swaps: 1}},
		{func() { g.Swap(by(p, 1), stale, stale) }, cell.Count{Loads: 2, Stores: 2, Swaps: 2, Failed: 1}},
		{func() { g.Swap(by(p, 1), plain(6), stale) }, cell.Count{Loads: 2, Stores: 2, Swaps: 3, Failed: 1}},
		{func() { g.Add(ref(p), 5) }, cell.Count{Loads: 2, Stores: 2, Swaps: 3, Failed: 1, Adds: 1}},
		{func() { g.Add(by(p, 1), 0) }, cell.Count{Loads: 2, Stores: 2, Swaps: 3, Failed: 1, Adds: 2}},
		{func() { g.Born(1); g.Born(0); g.Souls().Born(1) }, cell.Count{Loads: 2, Stores: 2, Swaps: 3, Failed: 1, Adds: 2}},
		{func() { g.Cells().Store(p, 1); g.Count(); g.Stale(); g.Faults() }, cell.Count{Loads: 2, Stores: 2, Swaps: 3, Failed: 1, Adds: 2}},
	} {
		s.do()
		if g.Count() != s.want {
			t.Error(i, g.Count(), s.want)
		}
	}
	n := g.Count()
	n.Loads = 100
	if g.Count().Loads != 2 {
		t.Error("a count that was answered is the one that is kept")
	}
}

// P8.1: Born is layer 6's: of a slot of 1, 0, below 0 and the ends of int; no word and no count is changed.
func TestBorn(t *testing.T) {
	g, m := peopled()
	s := soul.New()
	for _, slot := range m.births {
		s.Born(slot)
	}
	for range 3 {
		for _, slot := range slots {
			if got, want := g.Born(slot), s.Born(slot); got != want || got != m.born(slot) {
				t.Fatal(slot, got, want)
			}
			check(t, g, m)
		}
	}
	for _, slot := range slots {
		if !slices.Equal(g.Souls().All(slot), s.All(slot)) || g.Souls().Now(slot) != s.Now(slot) {
			t.Error(slot, g.Souls().All(slot), s.All(slot))
		}
	}
	if g.Souls().Count() != s.Count() || !slices.Equal(g.Souls().Slots(), s.Slots()) {
		t.Error(g.Souls().Count(), s.Count())
	}
	loads(t, g, m, places)
	check(t, g, m)
}

// P8.2: Souls is the same thing each time, with births between: who was asked for ahead of a birth tells it too, and who is born there is born in the ghost.
func TestSouls(t *testing.T) {
	g := ghost.New()
	p := place.Of(3, place.Key)
	s := g.Souls()
	if s == nil || s != g.Souls() || s.Count() != 0 {
		t.Fatal("ahead of all births")
	}
	if g.Born(3) != 1 || s.Now(3) != 1 || s != g.Souls() || s.Count() != 1 {
		t.Error("behind a birth", s.Now(3), s.Count())
	}
	g.Store(by(p, 1), plain(5))
	g.Load(by(p, 2))
	if g.Born(0) != 0 || g.Born(4) != 2 || s.Now(4) != 2 || s != g.Souls() {
		t.Error("behind other ones", s.Now(4), s.Count())
	}
	if s.Born(3) != 3 || !g.Load(by(p, 1)).Stale || g.Load(by(p, 3)).Stale || g.Born(3) != 4 || s.Now(3) != 4 {
		t.Error("born there", s.Now(3))
	}
	if !slices.Equal(s.All(3), []int{1, 3, 4}) || s != g.Souls() {
		t.Error(s.All(3))
	}
}

// P8.2, rule 3: a copy that Cells answered may be changed: the ghost is as it was, and so are other copies.
func TestCells(t *testing.T) {
	p, none := place.Of(2, place.Key), place.Of(9, place.Key)
	for i, change := range []func(c *cell.Cells){
		func(c *cell.Cells) { c.Store(p, 1) },
		func(c *cell.Cells) { c.Store(p, 0) },
		func(c *cell.Cells) { c.Store(none, 7) },
		func(c *cell.Cells) { c.Add(p, 1) },
		func(c *cell.Cells) { c.Add(none, 1) },
		func(c *cell.Cells) { c.Swap(p, c.Peek(p), 1) },
		func(c *cell.Cells) { c.Swap(none, 0, 1) },
		func(c *cell.Cells) { c.Load(p) },
	} {
		g, m := peopled()
		one, other := g.Cells(), g.Cells()
		if one == other || one == g.Cells() {
			t.Fatal("two copies are one")
		}
		change(one)
		check(t, g, m)
		loads(t, g, m, append(places, none))
		check(t, g, m)
		if !cell.Same(other, m.cells) || other.Count() != (cell.Count{}) {
			t.Error(i, other.Places(), other.Count())
		}
	}
	g := ghost.New()
	g.Cells().Store(p, 1)
	check(t, g, newModel())
}

// P8.2, rule 3: a copy that Cells answered isn't changed by what is done in the ghost later.
func TestCellsLater(t *testing.T) {
	p, none := place.Root(0), place.Of(9, place.Key)
	for i, change := range []func(g *ghost.Ghost){
		func(g *ghost.Ghost) { g.Store(ref(p), plain(1)) },
		func(g *ghost.Ghost) { g.Store(ref(p), plain(0)) },
		func(g *ghost.Ghost) { g.Store(ref(none), plain(1)) },
		func(g *ghost.Ghost) { g.Add(ref(p), 1) },
		func(g *ghost.Ghost) { g.Add(ref(none), 1) },
		func(g *ghost.Ghost) { g.Swap(ref(p), plain(g.Peek(p)), plain(1)) },
		func(g *ghost.Ghost) { g.Swap(ref(none), plain(0), plain(1)) },
		func(g *ghost.Ghost) { world.Start(g) },
	} {
		g, m := peopled()
		c := g.Cells()
		change(g)
		if !cell.Same(c, m.cells) || c.Count() != (cell.Count{}) {
			t.Error(i, c.Places(), c.Count())
		}
		if cell.Same(g.Cells(), m.cells) {
			t.Error(i, "nothing was changed")
		}
		empty := ghost.New()
		c = empty.Cells()
		change(empty)
		if len(c.Places()) != 0 || c.Count() != (cell.Count{}) {
			t.Error(i, c.Places(), c.Count())
		}
	}
}

// step makes one access of any kind, or a birth, in a ghost, in its model and in a plain world, and holds what is answered against each other.
func step(t *testing.T, x *numbers, g world.World, m *model, w *world.Plain) {
	t.Helper()
	p := one(x, places)
	a, b := by(p, one(x, ids)), by(p, one(x, ids))
	if x.below(2) == 0 {
		a.Id = m.now(p.Slot)
	}
	word, new := one(x, words), x.val(one(x, words))
	if x.below(2) == 0 {
		word = m.cells.Peek(p)
	}
	old := x.val(word)
	switch x.below(6) {
	case 0:
		got, want, bare := g.Load(a), m.load(a), w.Load(b)
		if got != want || got.Word != bare.Word {
			t.Fatal("Load", a, got, want, bare)
		}
	case 1:
		g.Store(a, new)
		m.store(a, new)
		w.Store(b, plain(new.Word))
	case 2:
		got, want, bare := g.Swap(a, old, new), m.swap(a, old, new), w.Swap(b, plain(old.Word), plain(new.Word))
		if got != want || got != bare {
			t.Fatal("Swap", a, old, new, got, want, bare)
		}
	case 3:
		got, want, bare := g.Add(a, new.Word), m.cells.Add(p, new.Word), w.Add(b, new.Word)
		if got != want || got != bare {
			t.Fatal("Add", a, new, got, want, bare)
		}
	case 4:
		if got, want := g.Peek(p), m.cells.Peek(p); got != want || got != w.Peek(p) {
			t.Fatal("Peek", p, got, want)
		}
	case 5:
		slot := one(x, slots)
		if got, want := g.Born(slot), m.born(slot); got != want || w.Born(slot) != 0 {
			t.Fatal("Born", slot, got, want)
		}
	}
}

// P8.1 to P8.3: rows of accesses and births of several places, held behind each one against the document's own words, and against the plain world.
func TestMany(t *testing.T) {
	for seed := range 30 {
		x := numbers(seed)
		g, m, w := ghost.New(), newModel(), world.New()
		for range 300 {
			step(t, &x, g, m, w)
			check(t, g, m)
			if g.Count() != w.Count() || !cell.Same(g.Cells(), w.Cells()) {
				t.Fatal("the plain world", g.Count(), w.Count())
			}
		}
		if m.stale < 5 || m.faults < 5 {
			t.Error("a row of little", seed, m.stale, m.faults)
		}
		loads(t, g, m, places)
	}
}

// P8.3: a plain world that is given what the ghost answered, or something else of the same words, comes to the same: the words, the answers, and the counts.
func TestPlain(t *testing.T) {
	for seed := range 20 {
		x := numbers(seed + 100)
		g, w := ghost.New(), world.New()
		world.Start(g)
		world.Start(w)
		last, bare := world.Val{}, world.Val{}
		for range 300 {
			p := one(&x, places)
			a, b := by(p, one(&x, ids)), ref(p)
			switch x.below(5) {
			case 0:
				last, bare = g.Load(a), w.Load(b)
				if bare != plain(last.Word) {
					t.Fatal("Load", a, last, bare)
				}
			case 1:
				g.Store(a, last)
				w.Store(b, bare)
			case 2:
				new := x.val(one(&x, words))
				if got, want := g.Swap(a, last, new), w.Swap(b, bare, plain(new.Word)); got != want {
					t.Fatal("Swap", a, last, new, got, want)
				}
			case 3:
				if got, want := g.Add(a, last.Word+1), w.Add(b, bare.Word+1); got != want {
					t.Fatal("Add", a, got, want)
				}
			case 4:
				g.Born(one(&x, slots))
			}
			if g.Peek(p) != w.Peek(p) || g.Count() != w.Count() || !cell.Same(g.Cells(), w.Cells()) {
				t.Fatal(p, g.Peek(p), w.Peek(p), g.Count(), w.Count())
			}
		}
	}
}

// Rule 4: a ghost hangs on what is done to it alone: of two that are worked on by turns each is its own model.
func TestApart(t *testing.T) {
	x := numbers(77)
	a, b := ghost.New(), ghost.New()
	ma, mb, wa, wb := newModel(), newModel(), world.New(), world.New()
	for range 300 {
		step(t, &x, a, ma, wa)
		step(t, &x, b, mb, wb)
	}
	check(t, a, ma)
	check(t, b, mb)
	loads(t, a, ma, places)
	loads(t, b, mb, places)
	if cell.Same(ma.cells, mb.cells) {
		t.Error("the rows were the same")
	}
}

// P7.2: a ghost is started as any world is: one Store of 1, that leads to nobody, and no fault.
func TestStart(t *testing.T) {
	g := ghost.New()
	world.Start(g)
	if v := g.Load(ref(place.Epoch())); v != plain(1) || g.Faults() != 0 || g.Count() != (cell.Count{Loads: 1, Stores: 1}) {
		t.Error(v, g.Faults(), g.Count())
	}
	if !slices.Equal(g.Cells().Places(), []api.Place{place.Epoch()}) {
		t.Error(g.Cells().Places())
	}
}

// P8.1, P8.2, rule 5: of nil zero values, false, nothing, in each method, at all arguments.
func TestNil(t *testing.T) {
	var g *ghost.Ghost
	x := numbers(5)
	for _, p := range append(shared, places...) {
		for _, word := range words {
			for _, id := range ids {
				g.Store(by(p, id), x.val(word))
				if v := g.Load(by(p, id)); v != (world.Val{}) {
					t.Error(p, id, v)
				}
				if g.Swap(by(p, id), x.val(word), x.val(word)) || g.Swap(by(p, id), x.val(0), x.val(word)) {
					t.Error(p, word, id, "a swap of nil was done")
				}
				if was := g.Add(by(p, id), word); was != 0 || g.Peek(p) != 0 {
					t.Error(p, was, g.Peek(p))
				}
			}
		}
	}
	for _, slot := range slots {
		if id := g.Born(slot); id != 0 {
			t.Error(slot, id)
		}
	}
	world.Start(g)
	if g.Count() != (cell.Count{}) || g.Cells() != nil || g.Souls() != nil || g.Stale() != 0 || g.Faults() != 0 {
		t.Error(g.Count(), g.Cells(), g.Souls(), g.Stale(), g.Faults())
	}
}

// P1: no call panics, of a ghost that no call made either.
func TestZero(t *testing.T) {
	for _, p := range append(shared, places...) {
		g := &ghost.Ghost{}
		world.Start(g)
		g.Load(by(p, 1))
		g.Store(by(p, 1), lead(1, 1))
		g.Swap(by(p, 1), plain(1), lead(2, 3))
		g.Swap(by(p, 1), plain(0), lead(2, 3))
		g.Add(by(p, 1), 3)
		g.Load(by(p, 1))
		g.Peek(p)
		g.Born(1)
		g.Souls().Born(1)
		g.Count()
		g.Cells().Places()
		g.Stale()
		g.Faults()
	}
}
