package shade_test

import (
	"math"
	"slices"
	"testing"

	"revenant/api"
	"revenant/cell"
	"revenant/ghost"
	"revenant/place"
	"revenant/shade"
	"revenant/soul"
	"revenant/world"
)

// words are words, the ends of 64 bits among them.
var words = []uint64{0, 1, 2, 5, 255, 1<<32 - 1, 1 << 32, 1<<63 - 1, 1 << 63, 1<<63 + 1, math.MaxUint64 - 1, math.MaxUint64}

// rows are rows of words: none, one, and several, with words of 0 and of all ones, and words that come again.
var rows = [][]uint64{nil, {}, {0}, {7}, {math.MaxUint64}, {7, 8}, {0, math.MaxUint64}, {math.MaxUint64, 0}, {0, 0, 9}, {9, 9, 9, 4}, {5, 6, 7, 8, 9, 10, 11}, words}

// ids are numbers as an Id, below 0 and the ends of int among them; many are alike in their low bits.
var ids = []int{0, 1, 2, 3, 4, 7, -1, -2, 256, 257, 1 << 31, 1 << 32, 1<<32 + 1, 1<<32 + 4, math.MaxInt, math.MinInt, math.MinInt + 1}

// slots are slots, and numbers that can't be one, the ends of int among them.
var slots = []int{1, 2, 3, 257, api.MaxSlots, api.MaxSlots + 1, 1<<32 + 1, math.MaxInt - 1, math.MaxInt, 0, -1, -2, -1 << 32, math.MinInt, math.MinInt + 1}

// shared are places that are no slot's cell, those that can't be too: a reference to one is never stale.
var shared = []api.Place{
	place.Epoch(), place.Pool(), place.Fresh(), place.Root(0), place.Root(63),
	{}, {Slot: 1}, {Kind: 1, Slot: 1}, {Kind: 2, Slot: 1, Part: 3}, {Kind: 3, Slot: 2}, {Kind: 4, Slot: 1, Part: 3}, {Kind: 4, Slot: 2, Part: -1},
	{Kind: 6, Slot: 1}, {Kind: 6, Slot: 2, Part: 3}, {Kind: 7, Slot: 1}, {Kind: -5, Slot: 1}, {Kind: 261, Slot: 1}, {Kind: 1<<32 + 5, Slot: 1},
	{Kind: math.MinInt, Slot: math.MaxInt, Part: math.MinInt}, {Kind: math.MaxInt, Slot: 1, Part: math.MaxInt},
}

// parts are all the parts of a slot, and some that can't be.
var parts = []int{place.Birth, place.Retire, place.Chain, place.Key, place.Val, place.Top, place.State, place.Next, place.Next + 1, place.Next + 15, place.Next + 16, -1, 1<<32 + 3, math.MaxInt, math.MinInt}

// places are places of each kind, few enough that a row of accesses comes to each of them often.
var places = []api.Place{
	place.Epoch(), place.Fresh(), place.Root(0),
	place.Of(1, place.Retire), place.Of(1, place.Key), place.Link(1, 0), place.Of(2, place.Key), place.Of(3, place.Key), place.Link(3, 2), place.Of(3, -1),
	{}, {Kind: 6, Slot: 1}, {Kind: 5}, {Kind: 5, Slot: -1, Part: 3}, {Kind: 5, Slot: math.MaxInt, Part: math.MinInt},
}

// numbers are numbers that look like any, always the same.
type numbers uint64

// below is the next one, below n.
func (x *numbers) below(n int) int {
	*x = *x*6364136223846793005 + 1442695040888963407
	return int(*x>>33) % n
}

// one is one of a list.
func one[T any](x *numbers, list []T) T { return list[x.below(len(list))] }

// val is a word with any Id, and sometimes stale.
func (x *numbers) val(word uint64) world.Val {
	return world.Val{Word: word, Id: one(x, ids), Stale: x.below(4) == 0}
}

// lead is the value of a word that leads to somebody.
func lead(word uint64, id int) world.Val { return world.Val{Word: word, Id: id} }

// stale is what a stale load answers.
func stale(word uint64) world.Val { return world.Val{Word: word, Stale: true} }

// ref is the reference to a place without an Id.
func ref(p api.Place) world.At { return world.At{Place: p} }

// by is the reference to a place of a slot that was somebody.
func by(p api.Place, id int) world.At { return world.At{Place: p, Id: id} }

// model is what the document says of a shade world: a ghost world, beside it who slots are, by the row of births, and the words that are still to be told, the next one first.
type model struct {
	ghost  *ghost.Ghost
	births []int
	row    []uint64
	told   int
	faults int
}

// newModel is one in which nothing was done.
func newModel(row ...uint64) *model { return &model{ghost: ghost.New(), row: slices.Clone(row)} }

// now is who a slot is.
func (m *model) now(slot int) int {
	for i := len(m.births); i > 0; i-- {
		if m.births[i-1] == slot {
			return i
		}
	}
	return 0
}

// isStale: whether a reference is.
func (m *model) isStale(a world.At) bool { return a.Place.Kind == 5 && m.now(a.Place.Slot) != a.Id }

func (m *model) load(a world.At) world.Val {
	v := m.ghost.Load(a)
	if !m.isStale(a) {
		return v
	}
	m.told++
	if len(m.row) == 0 {
		return stale(0)
	}
	next := m.row[0]
	m.row = append(m.row[1:], next)
	return stale(next)
}

func (m *model) store(a world.At, v world.Val) {
	m.ghost.Store(a, v)
	if m.isStale(a) || v.Stale {
		m.faults++
	}
}

func (m *model) swap(a world.At, old, new world.Val) bool {
	done := m.ghost.Swap(a, old, new)
	if done && (m.isStale(a) || old.Stale || new.Stale) {
		m.faults++
	}
	return done
}

func (m *model) born(slot int) int {
	if slot < 1 {
		return 0
	}
	m.births = append(m.births, slot)
	m.ghost.Born(slot)
	return len(m.births)
}

// check holds all that a shade world tells without an access against the model.
func check(t *testing.T, s *shade.Shade, m *model) {
	t.Helper()
	if s.Told() != m.told || s.Faults() != m.faults || s.Count() != m.ghost.Count() {
		t.Fatal("Told, Faults, Count", s.Told(), m.told, s.Faults(), m.faults, s.Count(), m.ghost.Count())
	}
	cells := m.ghost.Cells()
	for _, p := range append(cells.Places(), places...) {
		if got, want := s.Peek(p), cells.Peek(p); got != want {
			t.Fatal("Peek", p, got, want)
		}
	}
	c := s.Cells()
	if c == nil || !cell.Same(c, cells) || !slices.Equal(c.Places(), cells.Places()) || c.Count() != (cell.Count{}) {
		t.Fatal("Cells", c.Places(), cells.Places(), c.Count())
	}
	if s.Told() != m.told || s.Faults() != m.faults || s.Count() != m.ghost.Count() {
		t.Fatal("looking on was counted", s.Told(), m.told, s.Faults(), m.faults, s.Count(), m.ghost.Count())
	}
}

// loads loads each of the places by any Id, and holds what is answered against the model.
func loads(t *testing.T, s *shade.Shade, m *model, places []api.Place) {
	t.Helper()
	for _, p := range places {
		for _, id := range append([]int{m.now(p.Slot)}, ids...) {
			if got, want := s.Load(by(p, id)), m.load(by(p, id)); got != want {
				t.Fatal("Load", p, id, got, want)
			}
		}
	}
}

// peopled is a shade world with that row, with four births in three slots (2 was 1, and is 4), a word that leads to somebody at each of the places, and its model.
func peopled(row ...uint64) (*shade.Shade, *model) {
	s, m := shade.New(row...), newModel(row...)
	for _, slot := range []int{2, 1, math.MaxInt, 2} {
		s.Born(slot)
		m.born(slot)
	}
	for i, p := range places {
		a := by(p, m.now(p.Slot))
		s.Store(a, lead(uint64(i)+100, i+50))
		m.store(a, lead(uint64(i)+100, i+50))
	}
	return s, m
}

// The example: with the row 7, 8 three stale loads answer 7, 8, 7.
func TestExample(t *testing.T) {
	s := shade.New(7, 8)
	a := by(place.Of(5, place.Key), s.Born(5))
	s.Store(a, lead(6, 3))
	if v := s.Load(a); v != lead(6, 3) || s.Told() != 0 {
		t.Error("who it is", v, s.Told())
	}
	s.Born(5)
	for i, word := range []uint64{7, 8, 7} {
		if v := s.Load(a); v != stale(word) || s.Told() != i+1 {
			t.Error(i, v, s.Told())
		}
	}
	if s.Peek(a.Place) != 6 || s.Faults() != 0 {
		t.Error(s.Peek(a.Place), s.Faults())
	}
}

// P10.1: New has nothing stored and nobody born, whatever the row, and each New is another one.
func TestNew(t *testing.T) {
	for _, row := range rows {
		s := shade.New(row...)
		if s == nil {
			t.Fatal("nil")
		}
		check(t, s, newModel(row...))
		if len(s.Cells().Places()) != 0 || s.Count() != (cell.Count{}) || s.Told() != 0 || s.Faults() != 0 {
			t.Error(s.Cells().Places(), s.Count(), s.Told(), s.Faults())
		}
		m := newModel(row...)
		loads(t, s, m, append(shared, places...))
		check(t, s, m)
		other := shade.New(row...)
		if other == s {
			t.Fatal("two of New are one")
		}
		other.Born(1)
		other.Store(ref(place.Of(1, 3)), world.Val{Word: 7, Id: 8, Stale: true})
		other.Load(ref(place.Of(1, 3)))
		check(t, s, m)
		loads(t, s, m, places)
		if other.Told() != 1 || other.Faults() != 1 || other.Born(4) != 2 {
			t.Error(other.Told(), other.Faults())
		}
	}
}

// P10.1: of as many stale loads as the row has words, of fewer and of more, each answers the next word, and the first one again behind the last.
func TestRow(t *testing.T) {
	for _, row := range rows {
		s, _ := peopled(row...)
		for i := range 3*len(row) + 4 {
			want := uint64(0)
			if len(row) > 0 {
				want = row[i%len(row)]
			}
			p := place.Of(2, parts[i%len(parts)])
			if v := s.Load(by(p, ids[i%4])); v != stale(want) || s.Told() != i+1 {
				t.Fatal(row, i, v, want, s.Told())
			}
		}
	}
}

// P10.1: a row of very many words is gone through as a short one is.
func TestLongRow(t *testing.T) {
	x := numbers(9)
	row := make([]uint64, 3000)
	for i := range row {
		row[i] = uint64(x.below(1<<31)) * uint64(x.below(1<<31))
	}
	s := shade.New(row...)
	for i := range 10000 {
		if v := s.Load(by(place.Link(4, 1), 1)); v != stale(row[i%3000]) {
			t.Fatal(i, v, row[i%3000])
		}
	}
	if s.Told() != 10000 || s.Count() != (cell.Count{Loads: 10000}) {
		t.Error(s.Told(), s.Count())
	}
}

// P10.1: a row of no word answers 0, with the Id 0, Stale, at each stale load, whatever is there.
func TestNoRow(t *testing.T) {
	for _, s := range []*shade.Shade{shade.New(), shade.New(nil...), shade.New([]uint64{}...), shade.New(words[:0]...)} {
		a := by(place.Of(2, place.Val), s.Born(2))
		s.Store(a, lead(5, 6))
		s.Born(2)
		for i := range 5 {
			if v := s.Load(a); v != stale(0) || s.Told() != i+1 {
				t.Error(i, v, s.Told())
			}
		}
		if v := s.Load(by(a.Place, 2)); v != lead(5, 6) || s.Told() != 5 {
			t.Error(v, s.Told())
		}
	}
}

// P10.1: a stale load answers the next word with the Id 0, Stale, whatever stands there, and whatever Id was stored or swapped in.
func TestWhateverStands(t *testing.T) {
	row := []uint64{0, math.MaxUint64, 31}
	for _, part := range parts {
		p := place.Of(2, part)
		s, _ := peopled(row...)
		n := 0
		for _, word := range words {
			for k, id := range ids {
				v := world.Val{Word: word, Id: id, Stale: k%3 == 0}
				if k%2 == 0 {
					s.Store(by(p, 4), v)
				} else {
					s.Swap(by(p, 4), lead(s.Peek(p), 0), v)
				}
				for _, old := range []int{0, 1, 2, 3, -4, 1<<32 + 4, math.MaxInt, math.MinInt} {
					if got := s.Load(by(p, old)); got != stale(row[n%3]) {
						t.Fatal(p, word, id, old, got, row[n%3])
					}
					n++
				}
				if got := s.Load(by(p, 4)); got != lead(word, id) || s.Peek(p) != word || s.Told() != n {
					t.Fatal(p, word, id, got, s.Told(), n)
				}
			}
		}
		if s.Count().Loads != n+len(words)*len(ids) {
			t.Error(s.Count(), n)
		}
	}
}

// P10.1: a reference to a slot's cell, whichever part it is, is stale but with the Id of who the slot is: who it was, who another one is, nobody, and any other number are.
func TestWho(t *testing.T) {
	for _, part := range parts {
		for _, slot := range slots {
			p := place.Of(slot, part)
			s, m := shade.New(8, 9), newModel(8, 9)
			for _, b := range []int{0, slot, 44, slot, slot, 45} {
				if got, want := s.Born(b), m.born(b); got != want {
					t.Fatal(b, got, want)
				}
				for _, id := range append([]int{5, 6}, ids...) {
					a := by(p, id)
					if v := s.Load(a); v.Stale != (id != m.now(slot)) || v != m.load(a) {
						t.Fatal(a, b, v, m.now(slot))
					}
				}
				check(t, s, m)
			}
		}
	}
}

// P10.1: in a slot in which nobody was born, one that can't be too, a load with the Id 0 answers what is there, and any other one the next word.
func TestNobody(t *testing.T) {
	for _, slot := range slots {
		s := shade.New(71, 72)
		s.Born(77)
		a := ref(place.Of(slot, place.Key))
		s.Store(a, lead(5, 6))
		n := 0
		for _, id := range ids {
			want := lead(5, 6)
			if id != 0 {
				want = stale(71 + uint64(n%2))
				n++
			}
			if v := s.Load(by(a.Place, id)); v != want || s.Told() != n {
				t.Error(slot, id, v, want, s.Told(), n)
			}
		}
		want := lead(5, 6)
		if slot > 0 {
			s.Born(slot)
			want = stale(71 + uint64(n%2))
		}
		if v := s.Load(a); v != want {
			t.Error(slot, v, want)
		}
	}
}

// P10.1, P10.3: references to all places but slots' cells are never stale, whatever their Ids and Slots: they answer what is there, and take no word.
func TestNeverStale(t *testing.T) {
	for i, p := range shared {
		s, m := peopled(3, 4)
		for k, id := range ids {
			v := lead(uint64(i*100+k), k)
			s.Store(by(p, 1), v)
			m.store(by(p, 1), v)
			if got := s.Load(by(p, id)); got != v || got != m.load(by(p, id)) {
				t.Fatal(p, id, got, v)
			}
		}
		check(t, s, m)
		if v := s.Load(by(place.Of(2, 3), 1)); v != stale(3) {
			t.Error(p, v)
		}
	}
}

// P10.1: only a stale load takes a word of the row: step by step, each with a stale load behind it.
func TestTakesNone(t *testing.T) {
	p, q := place.Of(2, place.Key), place.Root(0)
	row := []uint64{21, 22, 23, 24, 25}
	s, _ := peopled(row...)
	for i, do := range []func(){
		func() {},
		func() { s.Load(by(p, 4)) },
		func() { s.Load(by(p, 4)); s.Load(ref(q)); s.Load(by(q, 1)); s.Load(ref(place.Of(9, 3))) },
		func() { s.Store(by(p, 1), lead(5, 1)) },
		func() { s.Store(by(p, 4), world.Val{Word: 5, Stale: true}) },
		func() { s.Swap(by(p, 1), lead(5, 1), lead(6, 1)) },
		func() { s.Swap(by(p, 1), lead(5, 1), lead(6, 1)) },
		func() { s.Swap(by(p, 4), stale(6), stale(7)) },
		func() { s.Add(by(p, 1), 1) },
		func() { s.Add(by(p, 4), 1) },
		func() { s.Peek(p); s.Peek(q) },
		func() { s.Born(3); s.Born(0); s.Born(-1) },
		func() { s.Count(); s.Cells().Load(p); s.Told(); s.Faults() },
		func() { shade.New(row...).Load(by(p, 1)) },
		func() { world.Start(s) },
	} {
		do()
		if v := s.Load(by(p, 1)); v != stale(row[i%5]) || s.Told() != i+1 {
			t.Error(i, v, row[i%5], s.Told())
		}
	}
}

// P10.1: which word is next hangs on no place and no reference: one row serves them all.
func TestOneRow(t *testing.T) {
	s, _ := peopled(words...)
	n := 0
	for _, slot := range slots {
		for _, part := range parts {
			if v := s.Load(by(place.Of(slot, part), -1-n%3)); v != stale(words[n%len(words)]) {
				t.Fatal(slot, part, v, words[n%len(words)])
			}
			n++
			s.Born(n % 4)
		}
	}
}

// P10.1: what was answered by a stale load, and is stored or swapped in, is there with the word of the row and the Id 0; it is a fault, and a later load of it isn't stale.
func TestStored(t *testing.T) {
	for _, word := range words {
		p, q := place.Of(1, place.Val), place.Root(3)
		for _, into := range []world.At{ref(q), by(q, 5), by(p, 2), by(place.Of(8, 3), 0)} {
			s, _ := peopled(word, 66)
			s.Store(into, lead(44, 45))
			v := s.Load(by(place.Of(2, place.Key), 1))
			s.Store(into, v)
			if got := s.Load(into); got != lead(word, 0) || s.Peek(into.Place) != word || s.Faults() != 1 {
				t.Error("stored", word, into, got, s.Faults())
			}
			s.Store(into, lead(44, 45))
			if !s.Swap(into, lead(44, 0), v) || s.Load(into) != lead(word, 0) || s.Faults() != 2 {
				t.Error("swapped in", word, into, s.Faults())
			}
			if !s.Swap(into, v, lead(44, 45)) || s.Load(into) != lead(44, 45) || s.Faults() != 3 {
				t.Error("swapped out", word, into, s.Faults())
			}
			if word != 44 && s.Swap(into, v, lead(46, 0)) || s.Load(into) != lead(44, 45) || s.Faults() != 3 || s.Told() != 1 {
				t.Error("not swapped", word, into, s.Faults(), s.Told())
			}
			if got := s.Load(by(place.Of(2, place.Key), 1)); got != stale(66) {
				t.Error("the next word", got)
			}
		}
	}
}

// P10.1: a swap goes by the words that are there, by stale references too, and never by those of the row.
func TestSwap(t *testing.T) {
	p := place.Link(2, 1)
	for _, there := range words {
		for _, old := range words {
			for _, at := range []int{4, 1, 0, -1} {
				s, m := peopled(old, there)
				s.Store(by(p, 4), lead(there, 5))
				m.store(by(p, 4), lead(there, 5))
				m.swap(by(p, at), lead(old, 6), lead(there+1, 7))
				if done := s.Swap(by(p, at), lead(old, 6), lead(there+1, 7)); done != (there == old) {
					t.Fatal(there, old, at, done)
				}
				if got, want := s.Load(by(p, 4)), m.load(by(p, 4)); got != want {
					t.Fatal(there, old, at, got, want)
				}
				check(t, s, m)
			}
		}
	}
}

// P10.1: Add answers what was there, and goes round 2^64, by stale references too: it is neither told nor a fault, and leaves the Id.
func TestAdd(t *testing.T) {
	p := place.Of(2, place.State)
	for _, there := range words {
		for _, n := range words {
			s, m := peopled(77, 78)
			s.Store(by(p, 4), lead(there, 3))
			m.store(by(p, 4), lead(there, 3))
			for k, id := range []int{4, 1, 0, -1} {
				if got := s.Add(by(p, id), n); got != there+uint64(k)*n {
					t.Fatal(there, n, id, got)
				}
				m.ghost.Add(by(p, id), n)
				check(t, s, m)
			}
			if v := s.Load(by(p, 4)); v != lead(there+4*n, 3) || s.Told() != 0 || s.Faults() != 0 {
				t.Fatal(there, n, v, s.Told(), s.Faults())
			}
		}
	}
}

// P10.1: Peek tells the word that is there, whoever the slot is by now, and never one of the row.
func TestPeek(t *testing.T) {
	s, _ := peopled(55, 56)
	for i, p := range places {
		for _, slot := range []int{1, 2, 3, math.MaxInt} {
			s.Born(slot)
			s.Load(by(place.Of(slot, 3), 1))
			told, count := s.Told(), s.Count()
			if word := s.Peek(p); word != uint64(i)+100 || s.Told() != told || s.Count() != count {
				t.Error(p, word, s.Told(), told, s.Count(), count)
			}
		}
	}
	for _, p := range shared {
		if word := s.Peek(p); word != 0 && !slices.Contains(places, p) {
			t.Error("nothing was stored there", p, word)
		}
	}
}

// P10.1: Born is layer 6's: of a slot of 1, 0, below 0 and the ends of int; no word and no count is changed.
func TestBorn(t *testing.T) {
	s, m := peopled(12, 13)
	souls := soul.New()
	for _, slot := range m.births {
		souls.Born(slot)
	}
	for range 3 {
		for _, slot := range slots {
			if got, want := s.Born(slot), souls.Born(slot); got != want || got != m.born(slot) {
				t.Fatal(slot, got, want)
			}
			check(t, s, m)
		}
	}
	loads(t, s, m, places)
	for _, slot := range slots {
		p := place.Of(slot, place.Key)
		for id := range souls.Count() + 2 {
			if v := s.Load(by(p, id)); v.Stale != (souls.Now(slot) != id) || v != m.load(by(p, id)) {
				t.Error(slot, id, v, souls.Now(slot))
			}
		}
	}
	check(t, s, m)
}

// P10.2: Told counts the loads that were stale, and nothing else.
func TestTold(t *testing.T) {
	p := place.Of(2, place.Key)
	for _, row := range rows {
		s := shade.New(row...)
		for i, c := range []struct {
			do   func()
			want int
		}{
			{func() {}, 0},
			{func() { s.Load(ref(p)) }, 0},
			{func() { s.Load(by(p, 1)) }, 1},
			{func() { s.Load(by(p, math.MinInt)) }, 2},
			{func() { s.Born(2) }, 2},
			{func() { s.Load(by(p, 1)) }, 2},
			{func() { s.Load(ref(p)) }, 3},
			{func() { s.Load(by(p, 2)); s.Load(by(p, 1<<32+1)) }, 5},
			{func() { s.Load(by(place.Epoch(), 2)); s.Load(by(place.Root(1), 2)) }, 5},
			{func() { s.Load(by(api.Place{Kind: 6, Slot: 2, Part: 3}, 2)); s.Load(by(api.Place{}, 2)) }, 5},
			{func() { s.Store(ref(p), lead(1, 0)); s.Store(by(p, 1), stale(1)) }, 5},
			{func() { s.Swap(ref(p), lead(1, 0), lead(2, 0)); s.Swap(ref(p), lead(1, 0), lead(2, 0)) }, 5},
			{func() {
				s.Add(ref(p), 1)
				s.Peek(p)
				s.Cells()
				s.Count()
				s.Told()
				s.Faults()
			}, 5},
			{func() { s.Born(2); s.Load(by(p, 1)) }, 6},
			{func() { s.Load(by(p, 2)) }, 6},
			{func() { s.Load(ref(place.Of(0, 3))); s.Load(ref(place.Of(-1, 3))); s.Load(ref(place.Of(2, -1))) }, 7},
			{func() { s.Load(by(place.Of(0, 3), 2)); s.Load(by(place.Of(-1, 3), -1)) }, 9},
		} {
			c.do()
			if s.Told() != c.want {
				t.Fatal(row, i, s.Told(), c.want)
			}
		}
	}
}

// P10.2: Faults are layer 8's: a store, or a swap that is done, of a value that is stale (of a swap also the old one), or by a reference that is; of several reasons one, and none of loads.
func TestFaults(t *testing.T) {
	p, q := place.Of(1, place.Key), place.Root(0)
	for _, row := range rows {
		s := shade.New(row...)
		s.Born(1)
		for i, c := range []struct {
			do   func()
			want int
		}{
			{func() { s.Store(by(p, 1), lead(2, 1)) }, 0},
			{func() { s.Store(by(p, 1), stale(3)) }, 1},
			{func() { s.Store(by(p, 5), stale(3)) }, 2},
			{func() { s.Store(ref(p), lead(3, 3)) }, 3},
			{func() { s.Store(by(q, 9), lead(4, 2)) }, 3},
			{func() { s.Store(ref(q), stale(3)) }, 4},
			{func() { s.Store(ref(q), s.Load(by(p, 1))) }, 4},
			{func() { s.Store(ref(q), s.Load(by(p, 2))) }, 5},
			{func() { s.Store(ref(q), lead(3, 0)) }, 5},
			{func() { s.Swap(ref(q), stale(9), stale(4)); s.Swap(by(p, 7), stale(9), stale(4)) }, 5},
			{func() { s.Swap(ref(q), stale(3), lead(4, 2)) }, 6},
			{func() { s.Swap(ref(q), lead(4, 2), stale(5)) }, 7},
			{func() { s.Swap(ref(q), stale(5), stale(6)) }, 8},
			{func() { s.Swap(by(q, 3), lead(6, 8), lead(7, 8)) }, 8},
			{func() { s.Swap(by(p, 1), lead(3, 1), lead(4, 1)) }, 8},
			{func() { s.Swap(by(p, 2), lead(4, 1), lead(5, 1)) }, 9},
			{func() { s.Swap(by(p, 2), stale(5), stale(6)) }, 10},
			{func() { s.Add(by(p, 2), 1); s.Load(by(p, 2)); s.Load(ref(p)) }, 10},
			{func() { s.Born(1); s.Peek(p); s.Cells().Store(p, 1); s.Count(); s.Told() }, 10},
			{func() { s.Store(by(p, 2), lead(2, 1)) }, 10},
			{func() { s.Store(by(p, 1), lead(2, 1)) }, 11},
			{func() { s.Store(ref(place.Of(-1, 3)), lead(2, 1)); s.Store(by(place.Of(-1, 3), 1), lead(2, 1)) }, 12},
		} {
			c.do()
			if s.Faults() != c.want {
				t.Fatal(row, i, s.Faults(), c.want)
			}
		}
	}
}

// P10.1: each access is counted as what it is, stale or not, and nothing else is counted.
func TestCount(t *testing.T) {
	p := place.Of(1, place.Top)
	s := shade.New(4, 5)
	for i, c := range []struct {
		do   func()
		want cell.Count
	}{
		{func() { s.Load(ref(p)) }, cell.Count{Loads: 1}},
		{func() { s.Load(by(p, 1)) }, cell.Count{Loads: 2}},
		{func() { s.Load(by(p, -1)) }, cell.Count{Loads: 3}},
		{func() { s.Peek(p) }, cell.Count{Loads: 3}},
		{func() { s.Store(ref(p), lead(4, 2)) }, cell.Count{Loads: 3, Stores: 1}},
		{func() { s.Store(by(p, 2), stale(4)) }, cell.Count{Loads: 3, Stores: 2}},
		{func() { s.Swap(ref(p), lead(4, 0), lead(6, 0)) }, cell.Count{Loads: 3, Stores: 2, Swaps: 1}},
		{func() { s.Swap(by(p, 1), stale(4), stale(4)) }, cell.Count{Loads: 3, Stores: 2, Swaps: 2, Failed: 1}},
		{func() { s.Swap(by(p, 1), lead(6, 0), stale(4)) }, cell.Count{Loads: 3, Stores: 2, Swaps: 3, Failed: 1}},
		{func() { s.Add(ref(p), 5) }, cell.Count{Loads: 3, Stores: 2, Swaps: 3, Failed: 1, Adds: 1}},
		{func() { s.Add(by(p, 1), 0) }, cell.Count{Loads: 3, Stores: 2, Swaps: 3, Failed: 1, Adds: 2}},
		{func() { s.Born(1); s.Born(0) }, cell.Count{Loads: 3, Stores: 2, Swaps: 3, Failed: 1, Adds: 2}},
		{func() { s.Cells().Store(p, 1); s.Count(); s.Told(); s.Faults() }, cell.Count{Loads: 3, Stores: 2, Swaps: 3, Failed: 1, Adds: 2}},
	} {
		c.do()
		if s.Count() != c.want {
			t.Error(i, s.Count(), c.want)
		}
	}
}

// P10.1, rule 3: Cells is a copy each time: what is done to one changes neither the shade world nor another copy.
func TestCells(t *testing.T) {
	p, none := place.Of(2, place.Key), place.Of(9, place.Key)
	for i, change := range []func(c *cell.Cells){
		func(c *cell.Cells) { c.Store(p, 1) },
		func(c *cell.Cells) { c.Store(p, 0) },
		func(c *cell.Cells) { c.Store(none, 7) },
		func(c *cell.Cells) { c.Add(p, 1) },
		func(c *cell.Cells) { c.Swap(none, 0, 1) },
		func(c *cell.Cells) { c.Load(p) },
	} {
		s, m := peopled(5, 6)
		one, other := s.Cells(), s.Cells()
		if one == other || one == s.Cells() {
			t.Fatal("two copies are one")
		}
		change(one)
		check(t, s, m)
		loads(t, s, m, append(places, none))
		check(t, s, m)
		if !cell.Same(other, m.ghost.Cells()) || other.Count() != (cell.Count{}) {
			t.Error(i, other.Places(), other.Count())
		}
	}
}

// P10.1, rule 3: a copy that Cells answered isn't changed by what is done in the shade world later.
func TestCellsLater(t *testing.T) {
	p, none := place.Root(0), place.Of(9, place.Key)
	for i, change := range []func(s *shade.Shade){
		func(s *shade.Shade) { s.Store(ref(p), lead(1, 0)) },
		func(s *shade.Shade) { s.Store(ref(none), lead(1, 0)) },
		func(s *shade.Shade) { s.Add(ref(p), 1) },
		func(s *shade.Shade) { s.Swap(ref(p), lead(s.Peek(p), 0), lead(1, 0)) },
	} {
		s, m := peopled(5, 6)
		c := s.Cells()
		change(s)
		if was := m.ghost.Cells(); !cell.Same(c, was) || c.Count() != (cell.Count{}) || cell.Same(s.Cells(), was) {
			t.Error(i, c.Places(), c.Count(), s.Cells().Places())
		}
	}
}

// P10.1, rule 3: the row that was handed to New may be changed behind it, its spare room too, and is not changed by New or what is done later.
func TestRowKept(t *testing.T) {
	p := place.Of(2, place.Key)
	for n := range len(words) + 1 {
		for taken := range n + 2 {
			all := slices.Clone(words)
			row := all[:n]
			s, m := shade.New(row...), newModel(row...)
			for range taken {
				if got, want := s.Load(by(p, 1)), m.load(by(p, 1)); got != want {
					t.Fatal(n, taken, got, want)
				}
			}
			if !slices.Equal(all, words) {
				t.Fatal("the row was changed", n, taken, all)
			}
			for i := range all {
				all[i] += 1000
			}
			row = append(row, 5000)
			for range 2*n + 3 {
				if got, want := s.Load(by(p, 1)), m.load(by(p, 1)); got != want {
					t.Fatal("changed behind it", n, taken, got, want)
				}
			}
			for i, word := range all {
				if want := words[i] + 1000; word != want && !(i == n && word == 5000) {
					t.Fatal("the row was changed later", n, taken, i, word, want, len(row))
				}
			}
		}
	}
}

// Rule 4: two shade worlds with one row each take their own words, and each is its own model.
func TestApart(t *testing.T) {
	for _, row := range rows {
		x := numbers(77)
		a, b := shade.New(row...), shade.New(row...)
		ma, mb := newModel(row...), newModel(row...)
		for range 200 {
			step(t, &x, a, ma)
			step(t, &x, b, mb)
			if x.below(3) == 0 {
				step(t, &x, b, mb)
			}
		}
		check(t, a, ma)
		check(t, b, mb)
		loads(t, a, ma, places)
		loads(t, b, mb, places)
		if a.Told() == b.Told() || cell.Same(a.Cells(), b.Cells()) {
			t.Error("the rows of accesses were the same")
		}
	}
}

// step makes one access of any kind, or a birth, in a shade world and in its model, and holds what is answered against each other. It answers what a load did.
func step(t *testing.T, x *numbers, s *shade.Shade, m *model) world.Val {
	t.Helper()
	p := one(x, places)
	a := by(p, one(x, ids))
	if x.below(2) == 0 {
		a.Id = m.now(p.Slot)
	}
	word, new := one(x, words), x.val(one(x, words))
	if x.below(2) == 0 {
		word = m.ghost.Peek(p)
	}
	old := x.val(word)
	switch x.below(6) {
	case 0:
		got, want := s.Load(a), m.load(a)
		if got != want {
			t.Fatal("Load", a, got, want)
		}
		return got
	case 1:
		s.Store(a, new)
		m.store(a, new)
	case 2:
		if got, want := s.Swap(a, old, new), m.swap(a, old, new); got != want {
			t.Fatal("Swap", a, old, new, got, want)
		}
	case 3:
		if got, want := s.Add(a, new.Word), m.ghost.Add(a, new.Word); got != want {
			t.Fatal("Add", a, new, got, want)
		}
	case 4:
		if got, want := s.Peek(p), m.ghost.Peek(p); got != want {
			t.Fatal("Peek", p, got, want)
		}
	case 5:
		slot := one(x, slots)
		if got, want := s.Born(slot), m.born(slot); got != want {
			t.Fatal("Born", slot, got, want)
		}
	}
	return world.Val{}
}

// P10.1, P10.2: rows of accesses and births of several places, held behind each one against the document's own words; what stale loads answered is stored and swapped, too.
func TestMany(t *testing.T) {
	for i, row := range rows {
		for seed := range 6 {
			x := numbers(seed*100 + i)
			s, m := shade.New(row...), newModel(row...)
			last := world.Val{}
			for range 200 {
				if v := step(t, &x, s, m); v != (world.Val{}) {
					last = v
				}
				check(t, s, m)
				a := ref(one(&x, places))
				switch x.below(8) {
				case 0:
					s.Store(a, last)
					m.store(a, last)
				case 1:
					if got, want := s.Swap(a, last, lead(last.Word+1, 1)), m.swap(a, last, lead(last.Word+1, 1)); got != want {
						t.Fatal("Swap", a, last, got, want)
					}
				}
				check(t, s, m)
			}
			if m.told < 3 || m.faults < 5 {
				t.Error("a row of little", i, seed, m.told, m.faults)
			}
			loads(t, s, m, places)
		}
	}
}

// both makes one access of any kind, or a birth, in a shade world and in a ghost world: the same words of loads that aren't stale, the same staleness, and the same answers of all else.
func both(t *testing.T, x *numbers, s *shade.Shade, g *ghost.Ghost, a world.At) {
	t.Helper()
	old, new := x.val(one(x, []uint64{one(x, words), g.Peek(a.Place)})), x.val(one(x, words))
	switch x.below(6) {
	case 0, 1:
		got, want := s.Load(a), g.Load(a)
		if got.Stale != want.Stale || !got.Stale && got != want {
			t.Fatal("Load", a, got, want)
		}
	case 2:
		s.Store(a, new)
		g.Store(a, new)
	case 3:
		if got, want := s.Swap(a, old, new), g.Swap(a, old, new); got != want {
			t.Fatal("Swap", a, old, new, got, want)
		}
	case 4:
		if got, want := s.Add(a, new.Word), g.Add(a, new.Word); got != want {
			t.Fatal("Add", a, new, got, want)
		}
	case 5:
		slot := one(x, slots)
		if got, want := s.Born(slot), g.Born(slot); got != want {
			t.Fatal("Born", slot, got, want)
		}
	}
	if s.Peek(a.Place) != g.Peek(a.Place) || s.Count() != g.Count() || s.Told() != g.Stale() || s.Faults() != g.Faults() || !cell.Same(s.Cells(), g.Cells()) {
		t.Fatal(a, s.Peek(a.Place), g.Peek(a.Place), s.Count(), g.Count(), s.Told(), g.Stale(), s.Faults(), g.Faults())
	}
}

// P10.1, P10.2: the same accesses in layer 8's ghost world come to the same, but for what stale loads answer, whatever the row.
func TestGhost(t *testing.T) {
	for i, row := range rows {
		for seed := range 5 {
			x := numbers(seed*100 + i + 5000)
			s, g := shade.New(row...), ghost.New()
			world.Start(s)
			world.Start(g)
			for range 300 {
				p := one(&x, places)
				both(t, &x, s, g, by(p, one(&x, []int{one(&x, ids), g.Souls().Now(p.Slot)})))
			}
			if s.Told() < 5 || s.Faults() < 5 || s.Told() > 290 {
				t.Error("a row of little", s.Told(), s.Faults())
			}
		}
	}
}

// P10.3: behind accesses of which no load is stale it is the ghost world, whatever the row, by whatever references stores, swaps and additions were; and no word of the row is gone.
func TestNoStaleLoad(t *testing.T) {
	for i, row := range rows {
		x := numbers(i + 9000)
		s, g := shade.New(row...), ghost.New()
		for range 300 {
			p := one(&x, places)
			a := by(p, g.Souls().Now(p.Slot))
			last := g.Load(a)
			if got := s.Load(a); got != last {
				t.Fatal("Load", a, got, last)
			}
			a = by(one(&x, places), one(&x, ids))
			switch x.below(4) {
			case 0:
				s.Store(a, last)
				g.Store(a, last)
			case 1:
				new := x.val(one(&x, words))
				if got, want := s.Swap(a, last, new), g.Swap(a, last, new); got != want {
					t.Fatal("Swap", a, last, new, got, want)
				}
			case 2:
				if got, want := s.Add(a, last.Word+1), g.Add(a, last.Word+1); got != want {
					t.Fatal("Add", a, got, want)
				}
			case 3:
				slot := one(&x, slots)
				if got, want := s.Born(slot), g.Born(slot); got != want {
					t.Fatal("Born", slot, got, want)
				}
			}
			if s.Told() != 0 || s.Faults() != g.Faults() || s.Count() != g.Count() || !cell.Same(s.Cells(), g.Cells()) {
				t.Fatal(s.Told(), s.Faults(), g.Faults(), s.Count(), g.Count())
			}
		}
		if g.Faults() < 5 {
			t.Error("a row of little", g.Faults())
		}
		for k, word := range append(slices.Clone(row), row...) {
			if v := s.Load(by(place.Of(2, place.Key), -9)); v != stale(word) {
				t.Fatal("a word is gone", k, v, word)
			}
		}
	}
}

// P7.2: a shade world is started as any world is: one Store of 1, that leads to nobody, and no fault.
func TestStart(t *testing.T) {
	for _, row := range rows {
		s := shade.New(row...)
		world.Start(s)
		if v := s.Load(ref(place.Epoch())); v != lead(1, 0) || s.Faults() != 0 || s.Count() != (cell.Count{Loads: 1, Stores: 1}) {
			t.Error(v, s.Faults(), s.Count())
		}
		if !slices.Equal(s.Cells().Places(), []api.Place{place.Epoch()}) {
			t.Error(s.Cells().Places())
		}
	}
}

// P10.1, P10.2, rule 5: of nil zero values, false, nothing, in each method, at all arguments.
func TestNil(t *testing.T) {
	var s *shade.Shade
	x := numbers(5)
	for _, p := range append(shared, places...) {
		for _, word := range words {
			for _, id := range ids {
				s.Store(by(p, id), x.val(word))
				if v := s.Load(by(p, id)); v != (world.Val{}) {
					t.Error(p, id, v)
				}
				if s.Swap(by(p, id), x.val(word), x.val(word)) || s.Swap(by(p, id), x.val(0), x.val(word)) {
					t.Error(p, word, id, "a swap of nil was done")
				}
				if was := s.Add(by(p, id), word); was != 0 || s.Peek(p) != 0 {
					t.Error(p, was, s.Peek(p))
				}
			}
		}
	}
	for _, slot := range slots {
		if id := s.Born(slot); id != 0 {
			t.Error(slot, id)
		}
	}
	world.Start(s)
	if s.Count() != (cell.Count{}) || s.Cells() != nil || s.Told() != 0 || s.Faults() != 0 {
		t.Error(s.Count(), s.Cells(), s.Told(), s.Faults())
	}
}

// P1: no call panics, of a shade world that no call made either.
func TestZero(t *testing.T) {
	for _, p := range append(shared, places...) {
		s := &shade.Shade{}
		world.Start(s)
		s.Load(by(p, 1))
		s.Store(by(p, 1), lead(1, 1))
		s.Swap(by(p, 1), lead(1, 0), lead(2, 3))
		s.Swap(by(p, 1), lead(0, 0), lead(2, 3))
		s.Add(by(p, 1), 3)
		s.Peek(p)
		s.Born(1)
		s.Load(by(p, 1))
		s.Count()
		s.Cells().Places()
		s.Told()
		s.Faults()
	}
}
