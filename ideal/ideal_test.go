package ideal_test

import (
	"math"
	"slices"
	"testing"

	"revenant/api"
	"revenant/cell"
	"revenant/ghost"
	"revenant/ideal"
	"revenant/place"
	"revenant/soul"
	"revenant/world"
)

// words are words, the ends of 64 bits among them.
var words = []uint64{0, 1, 2, 5, 255, 1<<32 - 1, 1 << 32, 1<<63 - 1, 1 << 63, 1<<63 + 1, math.MaxUint64 - 1, math.MaxUint64}

// ids are numbers as an Id, below 0 and the ends of int among them; many are alike in their low bits.
var ids = []int{0, 1, 2, 3, 4, 7, -1, -2, 256, 257, 1 << 31, 1 << 32, 1<<32 + 1, 1<<32 + 2, math.MaxInt - 1, math.MaxInt, math.MinInt, math.MinInt + 1}

// slots are slots, and numbers that can't be one, the ends of int among them.
var slots = []int{1, 2, 3, 257, api.MaxSlots, api.MaxSlots + 1, 1<<32 + 1, math.MaxInt - 1, math.MaxInt, 0, -1, -2, -1 << 32, math.MinInt, math.MinInt + 1}

// contents are parts that are content: all that a slot can have, and beyond them.
var contents = []int{place.Birth, place.Key, place.Val, place.Top, place.State, place.Next, place.Next + 1, place.Next + 15, place.Next + 16, 257, 258, 1<<32 + 1, 1<<32 + 2, math.MaxInt}

// others are parts that are no content.
var others = []int{place.Retire, place.Chain, -1, -2, -1 << 32, math.MinInt, math.MinInt + 1}

// shared are places that go by themselves, those that can't be too: whoever is told as who the slot is, each is one cell.
var shared = []api.Place{
	place.Epoch(), place.Pool(), place.Fresh(), place.Root(0), place.Root(1), place.Root(63),
	place.Of(1, place.Retire), place.Of(1, place.Chain), place.Of(2, place.Retire), place.Of(2, place.Chain), place.Of(math.MaxInt, place.Chain), place.Of(0, place.Retire), place.Of(-1, place.Chain),
	place.Of(-1, place.Retire), place.Of(0, place.Chain), place.Of(-2, place.Chain), place.Of(math.MinInt, place.Chain),
	place.Of(1, -1), place.Of(2, -1), place.Of(1, math.MinInt), place.Of(0, -2), place.Of(0, -1), place.Of(-1, -1), place.Of(math.MinInt, -1),
	{}, {Slot: 1}, {Slot: 1, Part: 3}, {Kind: 1, Slot: 1}, {Kind: 2, Slot: 1, Part: 3}, {Kind: 3, Slot: 2}, {Kind: 4, Slot: 1, Part: 3}, {Kind: 4, Slot: 2, Part: 3}, {Kind: 4, Part: -1},
	{Kind: 6, Slot: 1}, {Kind: 6, Slot: 2, Part: 3}, {Kind: 7, Slot: 1, Part: 3}, {Kind: 13, Slot: 1, Part: 3}, {Kind: -5, Slot: 1, Part: 3}, {Kind: -1, Slot: -1, Part: -1}, {Kind: 261, Slot: 1, Part: 3}, {Kind: 1<<32 + 5, Slot: 1, Part: 3},
	{Kind: math.MinInt, Slot: math.MaxInt, Part: math.MinInt}, {Kind: math.MaxInt, Slot: 1, Part: math.MaxInt},
}

// places are places of each kind, few enough that a row of accesses comes to each of them often.
var places = []api.Place{
	place.Epoch(), place.Fresh(), place.Root(0),
	place.Of(1, place.Retire), place.Of(2, place.Chain), place.Of(3, -1),
	place.Of(1, place.Key), place.Link(1, 0), place.Of(2, place.Key), place.Of(3, place.Key), place.Link(3, 0), place.Of(1, place.Birth),
	{}, {Kind: 6, Slot: 1, Part: 3}, {Kind: 5, Part: 3}, {Kind: 5, Slot: -1, Part: 3}, {Kind: 5, Slot: math.MaxInt, Part: math.MaxInt},
}

// numbers are numbers that look like any, always the same.
type numbers uint64

// below is the next one, below n.
func (x *numbers) below(n int) int {
	*x = *x*6364136223846793005 + 1442695040888963407
	return int(*x>>33) % n
}

// one is one of a list.
func one[T any](x *numbers, list []T) T { return list[x.below(len(list))] }

// val is a word with any Id, and sometimes stale.
func (x *numbers) val(word uint64) world.Val {
	return world.Val{Word: word, Id: one(x, ids), Stale: x.below(4) == 0}
}

// plain is the value of a word that leads to nobody.
func plain(word uint64) world.Val { return world.Val{Word: word} }

// lead is the value of a word that leads to somebody.
func lead(word uint64, id int) world.Val { return world.Val{Word: word, Id: id} }

// stale is the value of a word that was read of somebody who isn't any more.
func stale(word uint64, id int) world.Val { return world.Val{Word: word, Id: id, Stale: true} }

// ref is the reference to a place without an Id.
func ref(p api.Place) world.At { return world.At{Place: p} }

// by is the reference to a place of a slot that was somebody.
func by(p api.Place, id int) world.At { return world.At{Place: p, Id: id} }

// isContent: the document's words, by numbers.
func isContent(p api.Place) bool { return p.Kind == 5 && p.Part >= 0 && p.Part != 1 && p.Part != 2 }

// share is whether two references tell one cell: content of one Id and part, all else of one place.
func share(a, b world.At) bool {
	if isContent(a.Place) && isContent(b.Place) {
		return a.Id == b.Id && a.Place.Part == b.Place.Part
	}
	return a.Place == b.Place && !isContent(a.Place)
}

// model is what the document says of an ideal world, as plainly as it can be: what was written by which reference, the last behind all others.
type model struct {
	written []written
	births  []int
	count   cell.Count
}

type written struct {
	at  world.At
	val world.Val
}

// there is what was written in a cell last.
func (m *model) there(a world.At) world.Val {
	for _, w := range slices.Backward(m.written) {
		if share(w.at, a) {
			return w.val
		}
	}
	return world.Val{}
}

// write writes the word and the Id; what was written there ahead of it plays no part any more.
func (m *model) write(a world.At, word uint64, id int) {
	m.written = slices.DeleteFunc(m.written, func(w written) bool { return share(w.at, a) })
	m.written = append(m.written, written{a, lead(word, id)})
}

// now is who a slot is.
func (m *model) now(slot int) int {
	for i := len(m.births); i > 0; i-- {
		if m.births[i-1] == slot {
			return i
		}
	}
	return 0
}

func (m *model) load(a world.At) world.Val {
	m.count.Loads++
	return m.there(a)
}

func (m *model) store(a world.At, v world.Val) {
	m.count.Stores++
	m.write(a, v.Word, v.Id)
}

func (m *model) swap(a world.At, old, new world.Val) bool {
	m.count.Swaps++
	if m.there(a).Word != old.Word {
		m.count.Failed++
		return false
	}
	m.write(a, new.Word, new.Id)
	return true
}

func (m *model) add(a world.At, n uint64) uint64 {
	m.count.Adds++
	was := m.there(a)
	m.write(a, was.Word+n, was.Id)
	return was.Word
}

func (m *model) born(slot int) int {
	if slot < 1 {
		return 0
	}
	m.births = append(m.births, slot)
	return len(m.births)
}

func (m *model) peek(p api.Place) uint64 { return m.there(by(p, m.now(p.Slot))).Word }

func (m *model) content(id, part int) uint64 {
	if p := (api.Place{Kind: 5, Part: part}); isContent(p) {
		return m.there(by(p, id)).Word
	}
	return 0
}

// check holds all that an ideal world tells without an access against the model.
func check(t *testing.T, w *ideal.Ideal, m *model) {
	t.Helper()
	for _, p := range places {
		if got, want := w.Peek(p), m.peek(p); got != want {
			t.Fatal("Peek", p, got, want)
		}
		for _, id := range []int{0, 1, m.now(p.Slot), p.Slot} {
			if got, want := w.Content(id, p.Part), m.content(id, p.Part); got != want {
				t.Fatal("Content", id, p.Part, got, want)
			}
		}
	}
	for _, k := range m.written {
		if got, want := w.Content(k.at.Id, k.at.Place.Part), m.content(k.at.Id, k.at.Place.Part); got != want {
			t.Fatal("Content", k.at, got, want)
		}
		if got, want := w.Peek(k.at.Place), m.peek(k.at.Place); got != want {
			t.Fatal("Peek", k.at, got, want)
		}
	}
	checkSouls(t, w, m)
	if w.Count() != m.count {
		t.Fatal("Count", w.Count(), m.count)
	}
}

// checkSouls holds who slots are against the model.
func checkSouls(t *testing.T, w *ideal.Ideal, m *model) {
	t.Helper()
	s := w.Souls()
	if s == nil || s != w.Souls() || s.Count() != len(m.births) {
		t.Fatal("Souls", s.Count(), len(m.births))
	}
	for i, slot := range m.births {
		if s.SlotOf(i+1) != slot {
			t.Fatal("Souls", i+1, slot, s.SlotOf(i+1))
		}
	}
	for _, slot := range slots {
		if s.Now(slot) != m.now(slot) {
			t.Fatal("Souls", slot, s.Now(slot), m.now(slot))
		}
	}
}

// loads loads each of the places by any Id, and holds what is answered against the model.
func loads(t *testing.T, w *ideal.Ideal, m *model, places []api.Place) {
	t.Helper()
	for _, p := range places {
		for _, id := range append([]int{m.now(p.Slot)}, ids...) {
			if got, want := w.Load(by(p, id)), m.load(by(p, id)); got != want {
				t.Fatal("Load", p, id, got, want)
			}
		}
	}
}

// peopled is an ideal world with four births in three slots (2 was 1, and is 4), a word that leads to somebody at each of the places, and its model.
func peopled() (*ideal.Ideal, *model) {
	w, m := ideal.New(), &model{}
	for _, slot := range []int{2, 1, math.MaxInt, 2} {
		w.Born(slot)
		m.born(slot)
	}
	for i, p := range places {
		a := by(p, m.now(p.Slot))
		w.Store(a, lead(uint64(i)+100, i+50))
		m.store(a, lead(uint64(i)+100, i+50))
	}
	return w, m
}

// The example: the slot 3 is born (1), its key is stored as 5; it is born again (2): the key by a reference with the Id 1 is 5, with the Id 2 it is 0.
func TestExample(t *testing.T) {
	w := ideal.New()
	p := place.Of(3, place.Key)
	if w.Born(3) != 1 {
		t.Error("born once")
	}
	w.Store(by(p, 1), plain(5))
	if w.Peek(p) != 5 || w.Content(1, place.Key) != 5 {
		t.Error(w.Peek(p), w.Content(1, place.Key))
	}
	if w.Born(3) != 2 {
		t.Error("born again")
	}
	if w.Load(by(p, 1)) != plain(5) || w.Load(by(p, 2)) != plain(0) {
		t.Error(w.Load(by(p, 1)), w.Load(by(p, 2)))
	}
	if w.Peek(p) != 0 || w.Content(1, place.Key) != 5 || w.Content(2, place.Key) != 0 {
		t.Error(w.Peek(p), w.Content(1, place.Key), w.Content(2, place.Key))
	}
}

// P9.1, P9.2: New has nothing stored and nobody born, and each New is another one.
func TestNew(t *testing.T) {
	w, m := ideal.New(), &model{}
	if w == nil {
		t.Fatal("nil")
	}
	check(t, w, m)
	if len(w.Souls().Slots()) != 0 || w.Souls().Count() != 0 || w.Count() != (cell.Count{}) {
		t.Error(w.Souls().Slots(), w.Count())
	}
	for _, p := range append(shared, places...) {
		for _, id := range ids {
			if w.Peek(p) != 0 || w.Content(id, p.Part) != 0 || w.Load(by(p, id)) != (world.Val{}) {
				t.Error(p, id, w.Peek(p), w.Content(id, p.Part))
			}
			m.count.Loads++
		}
	}
	check(t, w, m)
	other := ideal.New()
	if other == w || other.Souls() == w.Souls() {
		t.Fatal("two of New are one")
	}
	other.Born(1)
	other.Store(by(place.Of(1, 3), 1), stale(7, 8))
	other.Store(by(place.Of(1, 3), 0), stale(9, 8))
	other.Store(ref(place.Root(0)), lead(7, 8))
	check(t, w, m)
	loads(t, w, m, places)
	if other.Peek(place.Of(1, 3)) != 7 || other.Souls().Count() != 1 || other.Count() != (cell.Count{Stores: 3}) {
		t.Error(other.Peek(place.Of(1, 3)), other.Souls().Count(), other.Count())
	}
}

// P9.1, P9.3: content goes by the Id and the part, whichever slot the reference tells: each number has cells of its own, that are 0 at first, whoever was born where.
func TestContentOwn(t *testing.T) {
	for _, births := range [][]int{nil, {1}, {2, 1, 257, 2}, {1, 2, 3, 1, 1}} {
		for _, part := range contents {
			w := ideal.New()
			for _, slot := range births {
				w.Born(slot)
			}
			for i, id := range ids {
				for _, slot := range slots {
					if v := w.Load(by(place.Of(slot, part), id)); v != (world.Val{}) {
						t.Fatal(slot, part, id, v, "isn't 0 at first")
					}
				}
				a := by(place.Of(slots[i%len(slots)], part), id)
				w.Store(a, lead(uint64(i)+10, i+1))
			}
			for i, id := range ids {
				for _, slot := range slots {
					if v := w.Load(by(place.Of(slot, part), id)); v != lead(uint64(i)+10, i+1) {
						t.Fatal(slot, part, id, v)
					}
				}
				if word := w.Content(id, part); word != uint64(i)+10 {
					t.Fatal(part, id, word)
				}
			}
		}
	}
}

// P9.1: one part of somebody is another cell than each other one, and than those of all slots whose number is as the Id.
func TestContentApart(t *testing.T) {
	for _, id := range ids {
		w := ideal.New()
		for i, part := range contents {
			w.Store(by(place.Of(9, part), id), lead(uint64(i)+1, i+1))
		}
		for i, part := range others {
			w.Store(by(place.Of(id, part), id), lead(uint64(i)+50, i+50))
		}
		for i, p := range shared[:6] {
			w.Store(by(p, id), lead(uint64(i)+90, i+90))
		}
		for i, part := range contents {
			if v := w.Load(by(place.Of(id, part), id)); v != lead(uint64(i)+1, i+1) {
				t.Error(id, part, v)
			}
		}
		for i, part := range others {
			if v := w.Load(ref(place.Of(id, part))); v != lead(uint64(i)+50, i+50) {
				t.Error(id, part, v)
			}
			if v := w.Load(by(place.Of(9, part), id)); id != 9 && v != (world.Val{}) {
				t.Error(id, part, v)
			}
		}
		for i, p := range shared[:6] {
			if v := w.Load(ref(p)); v != lead(uint64(i)+90, i+90) {
				t.Error(id, p, v)
			}
		}
	}
}

// P9.1: the cells that all share, the roots, Retire and Chain of a slot, and all that is no content go by their places alone, whatever the Id, and whoever is born.
func TestShared(t *testing.T) {
	w, m := peopled()
	for _, p := range shared {
		for i, id := range ids {
			v := lead(uint64(i)+3, id)
			w.Store(by(p, id), v)
			m.store(by(p, id), v)
			for _, other := range append([]int{4}, ids...) {
				if got := w.Load(by(p, other)); got != v || got != m.load(by(p, other)) {
					t.Fatal(p, id, other, got, v)
				}
			}
			if w.Peek(p) != v.Word {
				t.Fatal(p, id, w.Peek(p))
			}
		}
		if !w.Swap(by(p, 1), plain(w.Peek(p)), lead(77, 1)) || w.Add(by(p, -1), 1) != 77 || w.Load(ref(p)) != lead(78, 1) {
			t.Error(p, w.Load(ref(p)))
		}
		w.Born(p.Slot)
		if w.Load(ref(p)) != lead(78, 1) || w.Peek(p) != 78 {
			t.Error(p, "a birth changed it", w.Load(ref(p)))
		}
	}
	for i, p := range shared {
		w.Store(by(p, i), lead(uint64(i)+200, i+1))
	}
	for i, p := range shared {
		if v := w.Load(by(p, -i)); v != lead(uint64(i)+200, i+1) {
			t.Error(p, v, "isn't a cell of its own")
		}
	}
}

// P9.1: what is stored is answered with its Id, whatever Ids the references have, and it isn't stale, whether what was stored was or not.
func TestStore(t *testing.T) {
	for _, p := range places {
		w, m := peopled()
		for _, word := range words {
			for _, id := range ids {
				for k, at := range []int{m.now(p.Slot), id, 1} {
					v := world.Val{Word: word, Id: id, Stale: k == 1}
					w.Store(by(p, at), v)
					m.store(by(p, at), v)
					if got := w.Load(by(p, at)); got != m.load(by(p, at)) || got != lead(word, id) {
						t.Fatal(p, at, v, got)
					}
				}
			}
			loads(t, w, m, []api.Place{p})
			check(t, w, m)
		}
		loads(t, w, m, places)
	}
}

// P9.1: a swap goes by the words alone: neither the Ids of the values nor what is stale plays a part in whether it is done.
func TestSwapWords(t *testing.T) {
	for _, p := range []api.Place{place.Root(1), place.Link(2, 1), place.Of(3, place.Chain)} {
		for _, there := range words {
			for _, old := range words {
				for _, new := range words {
					w, m := peopled()
					a := by(p, m.now(p.Slot))
					w.Store(a, lead(there, 5))
					m.store(a, lead(there, 5))
					m.swap(a, lead(old, 6), lead(new, 7))
					if done := w.Swap(a, lead(old, 6), lead(new, 7)); done != (there == old) {
						t.Fatal(p, there, old, new, done)
					}
					if got, want := w.Load(a), m.load(a); got != want {
						t.Fatal(p, there, old, new, got, want)
					}
					if w.Count() != m.count {
						t.Fatal(p, there, old, new, w.Count(), m.count)
					}
				}
			}
		}
	}
}

// P9.1: of whatever Ids, and whatever is stale: a swap of another word does nothing, one of the word that is there is done, in the cell that the reference tells and in no other one.
func TestSwapIds(t *testing.T) {
	for _, p := range []api.Place{place.Root(2), place.Link(2, 0)} {
		for _, at := range append([]int{4}, ids...) {
			for _, old := range []int{0, 1, 4, -1, math.MaxInt} {
				for _, new := range ids {
					for k := range 4 {
						w, m := peopled()
						a, o, n := by(p, at), world.Val{Word: 4, Id: old, Stale: k&1 != 0}, world.Val{Word: 9, Id: new, Stale: k&2 != 0}
						w.Store(a, lead(4, 8))
						m.store(a, lead(4, 8))
						if w.Swap(a, n, o) || m.swap(a, n, o) || w.Load(a) != m.load(a) {
							t.Fatal("another word was swapped", a, o, n)
						}
						if !w.Swap(a, o, n) || !m.swap(a, o, n) || w.Load(a) != m.load(a) {
							t.Fatal("the word that is there wasn't swapped", a, o, n)
						}
						for _, id := range []int{0, 1, 4, at} {
							if got, want := w.Load(by(p, id)), m.load(by(p, id)); got != want {
								t.Fatal(a, id, got, want)
							}
						}
						if w.Count() != m.count {
							t.Fatal(a, o, n, w.Count(), m.count)
						}
					}
				}
			}
		}
	}
}

// P9.1: a swap of a cell where nothing was stored is one of the word 0, that leads to nobody.
func TestSwapNothing(t *testing.T) {
	for _, p := range append(shared, places...) {
		for _, id := range ids {
			w, m := ideal.New(), &model{}
			a := by(p, id)
			if w.Swap(a, lead(1, 3), lead(2, 4)) || m.swap(a, lead(1, 3), lead(2, 4)) {
				t.Error(p, id)
			}
			if w.Load(a) != (world.Val{}) || m.load(a) != (world.Val{}) {
				t.Error(p, id, "a swap that wasn't done left something")
			}
			if !w.Swap(a, lead(0, 8), lead(math.MaxUint64, 4)) || !m.swap(a, lead(0, 8), lead(math.MaxUint64, 4)) {
				t.Error(p, id)
			}
			loads(t, w, m, []api.Place{p})
			check(t, w, m)
		}
	}
}

// P9.1: the Id that a load answers is that of what was stored, or swapped in, there last: step by step, of content and of all else.
func TestLoadId(t *testing.T) {
	for _, a := range []world.At{ref(place.Root(0)), ref(place.Of(2, place.Retire)), by(place.Of(2, place.Chain), 1), by(place.Link(2, 0), 4), by(place.Link(2, 0), 1), by(place.Of(3, place.Key), -1), ref(place.Of(2, place.Val)), by(api.Place{Kind: 9, Slot: -1}, 6)} {
		w, _ := peopled()
		for i, s := range []struct {
			do   func()
			want world.Val
		}{
			{func() { w.Store(a, plain(0)) }, plain(0)},
			{func() { w.Store(a, lead(5, 1)) }, lead(5, 1)},
			{func() { w.Store(a, lead(5, 2)) }, lead(5, 2)},
			{func() { w.Add(a, 3) }, lead(8, 2)},
			{func() { w.Add(a, 0) }, lead(8, 2)},
			{func() { w.Swap(a, lead(7, 2), lead(9, 3)) }, lead(8, 2)},
			{func() { w.Swap(a, lead(7, 2), lead(8, 0)) }, lead(8, 2)},
			{func() { w.Swap(a, plain(8), lead(9, 3)) }, lead(9, 3)},
			{func() { w.Swap(a, lead(9, 77), lead(9, 4)) }, lead(9, 4)},
			{func() { w.Add(a, math.MaxUint64-8) }, lead(0, 4)},
			{func() { w.Swap(a, plain(0), lead(0, -6)) }, lead(0, -6)},
			{func() { w.Swap(a, plain(0), plain(2)) }, plain(2)},
			{func() { w.Add(a, 2) }, plain(4)},
			{func() { w.Store(a, lead(0, math.MinInt)) }, lead(0, math.MinInt)},
			{func() { w.Add(a, math.MaxUint64) }, lead(math.MaxUint64, math.MinInt)},
			{func() { w.Store(a, stale(0, 6)) }, lead(0, 6)},
			{func() { w.Swap(a, stale(0, 0), stale(3, 7)) }, lead(3, 7)},
			{func() { w.Born(2); w.Born(3); w.Peek(a.Place); w.Content(a.Id, a.Place.Part); w.Souls() }, lead(3, 7)},
			{func() { w.Load(by(a.Place, 77)); w.Load(a) }, lead(3, 7)},
			{func() { w.Swap(a, stale(4, 0), stale(5, 9)) }, lead(3, 7)},
			{func() { w.Store(a, plain(3)) }, plain(3)},
		} {
			s.do()
			if v := w.Load(a); v != s.want {
				t.Error(a, i, v, s.want)
			}
		}
	}
}

// P9.1, P9.3: whom a word leads to is told of its own cell alone.
func TestLoadIdApart(t *testing.T) {
	all := []world.At{}
	for _, p := range shared {
		all = append(all, by(p, 1))
	}
	for _, id := range ids {
		all = append(all, by(place.Of(1, place.Key), id), by(place.Of(2, place.Next), id))
	}
	for i, a := range all {
		w := ideal.New()
		for j, b := range all {
			w.Store(b, lead(uint64(j), j+1))
		}
		w.Store(a, lead(90, 91))
		w.Swap(a, plain(90), lead(92, 93))
		for j, b := range all {
			want := lead(uint64(j), j+1)
			if i == j {
				want = lead(92, 93)
			}
			if v := w.Load(b); v != want {
				t.Error(a, b, v, want)
			}
		}
	}
}

// P9.1: Add answers what was there, and goes round 2^64, in the cell that the reference tells: content of each Id by itself, all else whoever is told.
func TestAdd(t *testing.T) {
	for _, p := range []api.Place{place.Of(2, place.State), place.Of(2, place.Retire), place.Fresh()} {
		for _, there := range words {
			for _, n := range words {
				w, m := peopled()
				w.Store(by(p, 4), lead(there, 3))
				m.store(by(p, 4), lead(there, 3))
				for _, id := range []int{4, 1, 0, -1, 4} {
					if got, want := w.Add(by(p, id), n), m.add(by(p, id), n); got != want {
						t.Fatal(p, there, n, id, got, want)
					}
				}
				for _, id := range []int{4, 1, 0, -1, 2} {
					if got, want := w.Load(by(p, id)), m.load(by(p, id)); got != want {
						t.Fatal(p, there, n, id, got, want)
					}
				}
				check(t, w, m)
			}
		}
	}
}

// P9.1: an addition to a cell where nothing was stored is one to 0, and leads to nobody.
func TestAddNothing(t *testing.T) {
	for _, p := range append(shared, places...) {
		for _, id := range ids {
			w := ideal.New()
			if was := w.Add(by(p, id), math.MaxUint64); was != 0 || w.Load(by(p, id)) != plain(math.MaxUint64) {
				t.Error(p, id, was, w.Load(by(p, id)))
			}
			if was := w.Add(by(p, id), 2); was != math.MaxUint64 || w.Load(by(p, id)) != plain(1) {
				t.Error(p, id, was, w.Load(by(p, id)))
			}
		}
	}
}

// P9.1: no value is stale, by whatever reference, whatever was stored as one.
func TestNeverStale(t *testing.T) {
	for _, p := range append(shared, places...) {
		w, _ := peopled()
		for range 3 {
			for _, id := range ids {
				a := by(p, id)
				if w.Load(a).Stale {
					t.Error(p, id)
				}
				w.Store(a, stale(3, id))
				if w.Load(a).Stale {
					t.Error(p, id, "stored")
				}
				if !w.Swap(a, stale(3, id), stale(4, id)) || w.Load(a).Stale {
					t.Error(p, id, "swapped in")
				}
				w.Swap(a, stale(3, id), stale(4, id))
				w.Add(a, 1)
				if w.Load(a) != lead(5, id) {
					t.Error(p, id, w.Load(a))
				}
			}
			w.Born(p.Slot)
			w.Born(2)
		}
	}
}

// P9.2: Peek of content tells that of who the slot is now: of nobody, of somebody, and of somebody else behind each birth; of all else the word there.
func TestPeek(t *testing.T) {
	for _, slot := range slots {
		for _, part := range append(append([]int{}, contents...), others...) {
			p := place.Of(slot, part)
			w, m := ideal.New(), &model{}
			for id := range 6 {
				a := by(place.Of(slot, part), id)
				w.Store(a, lead(uint64(id)+20, 3))
				m.store(a, lead(uint64(id)+20, 3))
			}
			for _, b := range []int{0, slot, 44, slot, slot, 45} {
				if got, want := w.Born(b), m.born(b); got != want {
					t.Fatal(b, got, want)
				}
				want := uint64(25)
				if isContent(p) {
					want = uint64(m.now(slot)) + 20
				}
				if got := w.Peek(p); got != want || got != m.peek(p) {
					t.Fatal(p, b, got, want)
				}
			}
			if w.Count() != m.count {
				t.Fatal("a Peek was counted", w.Count())
			}
		}
	}
}

// P9.2: Peek of content of a slot in which nobody was born tells what was stored with the Id 0, by whichever slot, till somebody is.
func TestPeekNobody(t *testing.T) {
	p, q := place.Of(4, place.Key), place.Of(5, place.Key)
	w := ideal.New()
	w.Store(by(p, 1), plain(7))
	if w.Peek(p) != 0 || w.Peek(q) != 0 {
		t.Error("of nobody", w.Peek(p), w.Peek(q))
	}
	w.Store(ref(q), plain(8))
	if w.Peek(p) != 8 || w.Peek(q) != 8 || w.Content(0, place.Key) != 8 {
		t.Error("of the Id 0", w.Peek(p), w.Peek(q))
	}
	if w.Born(4) != 1 || w.Peek(p) != 7 || w.Peek(q) != 8 {
		t.Error("of somebody", w.Peek(p), w.Peek(q))
	}
	if w.Born(4) != 2 || w.Peek(p) != 0 || w.Peek(q) != 8 {
		t.Error("of somebody else", w.Peek(p), w.Peek(q))
	}
	if w.Souls().Born(5) != 3 || w.Peek(q) != 0 {
		t.Error("of who was born in Souls", w.Peek(q))
	}
}

// P9.2: Content of a part that is content is the word of that number's cell, whoever it is; of all other parts 0.
func TestContent(t *testing.T) {
	w, _ := peopled()
	for i, id := range ids {
		for j, part := range append(append([]int{}, contents...), others...) {
			w.Store(by(place.Of(2, part), id), lead(uint64(i*100+j)+1000, 3))
			w.Store(ref(place.Of(id, place.Retire)), lead(7, 8))
			w.Store(ref(place.Of(id, place.Chain)), lead(8, 9))
			w.Store(ref(place.Of(id, -1)), lead(9, 9))
		}
	}
	was := w.Count()
	for i, id := range ids {
		for j, part := range contents {
			if word := w.Content(id, part); word != uint64(i*100+j)+1000 {
				t.Error(id, part, word)
			}
		}
		for _, part := range others {
			if word := w.Content(id, part); word != 0 {
				t.Error(id, part, word, "of a part that is no content")
			}
		}
		if word := w.Content(id, 99); word != 0 {
			t.Error(id, word, "of a part that nothing was stored in")
		}
	}
	for _, part := range contents {
		if word := w.Content(5, part); word != 0 {
			t.Error(part, word, "of somebody by whom nothing was stored")
		}
	}
	if w.Count() != was {
		t.Error("Content was counted", w.Count(), was)
	}
}

// P9.3: what somebody holds stays behind births, in that slot and in others, and behind stores, swaps and additions by references to others, in the same slot, in others, and to what is no content.
func TestHolds(t *testing.T) {
	for _, holder := range ids {
		w := ideal.New()
		w.Born(2)
		for i, part := range contents {
			w.Store(by(place.Of(2, part), holder), lead(uint64(i)+5, i+1))
		}
		for _, slot := range append([]int{2}, slots...) {
			w.Born(slot)
			for _, part := range append(append([]int{}, contents...), others...) {
				for _, id := range ids {
					a := by(place.Of(slot, part), id)
					if id == holder {
						a.Place.Part = others[part&1]
					}
					w.Store(a, lead(3, 9))
					w.Swap(a, plain(3), stale(4, 8))
					w.Add(a, 1)
				}
			}
			for _, p := range shared {
				w.Store(by(p, holder), lead(3, 9))
			}
			for i, part := range contents {
				if v := w.Load(by(place.Of(slot, part), holder)); v != lead(uint64(i)+5, i+1) || w.Content(holder, part) != v.Word {
					t.Fatal(holder, slot, part, v, w.Content(holder, part))
				}
			}
		}
	}
}

// P9.3: by a reference to it, whichever slot that tells, what somebody holds is changed, and what another one holds isn't.
func TestHoldsOwn(t *testing.T) {
	p, q := place.Of(1, place.Val), place.Of(2, place.Val)
	w := ideal.New()
	w.Born(1)
	w.Born(1)
	w.Store(by(p, 1), plain(10))
	w.Store(by(p, 2), plain(20))
	w.Store(by(q, 1), plain(11))
	if w.Content(1, place.Val) != 11 || w.Content(2, place.Val) != 20 || w.Peek(p) != 20 || w.Peek(q) != 0 {
		t.Error("a store", w.Content(1, place.Val), w.Content(2, place.Val))
	}
	if !w.Swap(by(q, 1), plain(11), plain(12)) || w.Swap(by(q, 2), plain(12), plain(21)) || w.Add(by(q, 2), 3) != 20 {
		t.Error("a swap", w.Content(1, place.Val), w.Content(2, place.Val))
	}
	if w.Load(by(p, 1)) != plain(12) || w.Load(by(p, 2)) != plain(23) || w.Load(ref(p)) != plain(0) {
		t.Error(w.Load(by(p, 1)), w.Load(by(p, 2)), w.Load(ref(p)))
	}
}

// P9.1: each access is counted as what it is, of content and of all else, and nothing else is counted.
func TestCount(t *testing.T) {
	p, q := place.Of(1, place.Top), place.Root(0)
	w := ideal.New()
	for i, s := range []struct {
		do   func()
		want cell.Count
	}{
		{func() { w.Load(ref(p)) }, cell.Count{Loads: 1}},
		{func() { w.Load(by(p, 1)); w.Load(ref(q)) }, cell.Count{Loads: 3}},
		{func() { w.Peek(p); w.Peek(q); w.Content(0, place.Top); w.Content(1, place.Retire) }, cell.Count{Loads: 3}},
		{func() { w.Store(ref(p), plain(4)); w.Store(ref(q), plain(4)) }, cell.Count{Loads: 3, Stores: 2}},
		{func() { w.Store(by(p, 2), stale(4, 3)) }, cell.Count{Loads: 3, Stores: 3}},
		{func() { w.Swap(ref(p), plain(4), plain(6)) }, cell.Count{Loads: 3, Stores: 3, Swaps: 1}},
		{func() { w.Swap(by(p, 1), plain(4), plain(6)) }, cell.Count{Loads: 3, Stores: 3, Swaps: 2, Failed: 1}},
		{func() { w.Swap(by(p, 2), stale(4, 0), stale(6, 0)) }, cell.Count{Loads: 3, Stores: 3, Swaps: 3, Failed: 1}},
		{func() { w.Swap(ref(q), plain(5), plain(6)); w.Swap(ref(q), plain(4), plain(4)) }, cell.Count{Loads: 3, Stores: 3, Swaps: 5, Failed: 2}},
		{func() { w.Add(ref(p), 5) }, cell.Count{Loads: 3, Stores: 3, Swaps: 5, Failed: 2, Adds: 1}},
		{func() { w.Add(by(p, 1), 0); w.Add(ref(q), 1) }, cell.Count{Loads: 3, Stores: 3, Swaps: 5, Failed: 2, Adds: 3}},
		{func() { w.Born(1); w.Born(0); w.Souls().Born(1); w.Count() }, cell.Count{Loads: 3, Stores: 3, Swaps: 5, Failed: 2, Adds: 3}},
	} {
		s.do()
		if w.Count() != s.want {
			t.Error(i, w.Count(), s.want)
		}
	}
	n := w.Count()
	n.Loads = 100
	if w.Count().Loads != 3 {
		t.Error("a count that was answered is the one that is kept")
	}
}

// P9.1: Born is layer 6's: of a slot of 1, 0, below 0 and the ends of int; no word is changed, and nothing is counted.
func TestBorn(t *testing.T) {
	w, m := peopled()
	s := soul.New()
	for _, slot := range m.births {
		s.Born(slot)
	}
	for range 3 {
		for _, slot := range slots {
			if got, want := w.Born(slot), s.Born(slot); got != want || got != m.born(slot) {
				t.Fatal(slot, got, want)
			}
			check(t, w, m)
		}
	}
	for _, slot := range slots {
		if !slices.Equal(w.Souls().All(slot), s.All(slot)) || w.Souls().Now(slot) != s.Now(slot) {
			t.Error(slot, w.Souls().All(slot), s.All(slot))
		}
	}
	if w.Souls().Count() != s.Count() || !slices.Equal(w.Souls().Slots(), s.Slots()) {
		t.Error(w.Souls().Count(), s.Count())
	}
	loads(t, w, m, places)
	check(t, w, m)
}

// P9.2: Souls is the same thing each time, with births between: who was asked for ahead of a birth tells it too, and who is born there is born in the world.
func TestSouls(t *testing.T) {
	w := ideal.New()
	p := place.Of(3, place.Key)
	s := w.Souls()
	if s == nil || s != w.Souls() || s.Count() != 0 {
		t.Fatal("ahead of all births")
	}
	if w.Born(3) != 1 || s.Now(3) != 1 || s != w.Souls() || s.Count() != 1 {
		t.Error("behind a birth", s.Now(3), s.Count())
	}
	w.Store(by(p, 1), plain(5))
	w.Load(by(p, 2))
	if w.Born(0) != 0 || w.Born(4) != 2 || s.Now(4) != 2 || s != w.Souls() {
		t.Error("behind other ones", s.Now(4), s.Count())
	}
	w.Store(by(p, 3), plain(6))
	if s.Born(3) != 3 || w.Peek(p) != 6 || w.Born(3) != 4 || s.Now(3) != 4 || w.Peek(p) != 0 {
		t.Error("born there", s.Now(3), w.Peek(p))
	}
	if !slices.Equal(s.All(3), []int{1, 3, 4}) || s != w.Souls() {
		t.Error(s.All(3))
	}
}

// step makes one access of any kind, a Peek, or a birth, in an ideal world and in its model, and holds what is answered against each other.
func step(t *testing.T, x *numbers, w world.World, m *model) {
	t.Helper()
	a := by(one(x, places), one(x, ids))
	if x.below(2) == 0 {
		a.Id = m.now(a.Place.Slot)
	}
	word, new := one(x, words), x.val(one(x, words))
	if x.below(2) == 0 {
		word = m.there(a).Word
	}
	old := x.val(word)
	switch x.below(6) {
	case 0:
		if got, want := w.Load(a), m.load(a); got != want {
			t.Fatal("Load", a, got, want)
		}
	case 1:
		w.Store(a, new)
		m.store(a, new)
	case 2:
		if got, want := w.Swap(a, old, new), m.swap(a, old, new); got != want {
			t.Fatal("Swap", a, old, new, got, want)
		}
	case 3:
		if got, want := w.Add(a, new.Word), m.add(a, new.Word); got != want {
			t.Fatal("Add", a, new, got, want)
		}
	case 4:
		if got, want := w.Peek(a.Place), m.peek(a.Place); got != want {
			t.Fatal("Peek", a, got, want)
		}
	case 5:
		slot := one(x, slots)
		if got, want := w.Born(slot), m.born(slot); got != want {
			t.Fatal("Born", slot, got, want)
		}
	}
}

// P9.1 to P9.3: rows of accesses and births of several places, with Content and Count behind each one, held against the document's own words.
func TestMany(t *testing.T) {
	for seed := range 30 {
		x := numbers(seed)
		w, m := ideal.New(), &model{}
		for range 300 {
			step(t, &x, w, m)
			check(t, w, m)
		}
		if n := m.count; n.Failed < 5 || n.Swaps < n.Failed+5 || n.Loads < 10 || n.Stores < 10 || n.Adds < 10 || len(m.births) < 10 {
			t.Error("a row of little", seed, n, len(m.births))
		}
		loads(t, w, m, places)
	}
}

// always is an Id for each slot, another one for unlike slots: of some nobody was born, of some somebody in another slot.
func always(slot int) int { return 4 - slot }

// P9.1: behind a row whose references tell of each slot always the same Id, and of unlike slots unlike ones, words and answers of swaps and additions are the plain world's.
func TestPlain(t *testing.T) {
	for seed := range 20 {
		x := numbers(seed + 100)
		w, bare := ideal.New(), world.New()
		world.Start(w)
		world.Start(bare)
		for range 300 {
			p := one(&x, append(places, shared...))
			a, b := by(p, always(p.Slot)), by(p, one(&x, ids))
			old, new := x.val(bare.Peek(p)), x.val(one(&x, words))
			if x.below(3) == 0 {
				old.Word++
			}
			switch x.below(5) {
			case 0:
				if got, want := w.Load(a).Word, bare.Load(b).Word; got != want {
					t.Fatal("Load", a, got, want)
				}
			case 1:
				w.Store(a, new)
				bare.Store(b, new)
			case 2:
				if got, want := w.Swap(a, old, new), bare.Swap(b, old, new); got != want {
					t.Fatal("Swap", a, old, new, got, want)
				}
			case 3:
				if got, want := w.Add(a, new.Word), bare.Add(b, new.Word); got != want {
					t.Fatal("Add", a, got, want)
				}
			case 4:
				w.Born(one(&x, slots))
			}
			if w.Count() != bare.Count() {
				t.Fatal(w.Count(), bare.Count())
			}
			for _, p := range append(places, shared...) {
				if isContent(p) && w.Content(always(p.Slot), p.Part) != bare.Peek(p) || !isContent(p) && w.Peek(p) != bare.Peek(p) {
					t.Fatal(p, w.Peek(p), w.Content(always(p.Slot), p.Part), bare.Peek(p))
				}
			}
		}
	}
}

// P9.1: where each slot is born once, ahead of all accesses, and is told as who it is, all that is answered is layer 8's, the Ids too.
func TestGhost(t *testing.T) {
	for seed := range 20 {
		x := numbers(seed + 200)
		w, g := ideal.New(), ghost.New()
		for _, p := range places {
			if g.Souls().Now(p.Slot) == 0 && w.Born(p.Slot) != g.Born(p.Slot) {
				t.Fatal(p)
			}
		}
		for range 300 {
			p := one(&x, places)
			if isContent(p) && p.Slot < 1 {
				continue
			}
			a := by(p, w.Souls().Now(p.Slot))
			old, new := x.val(g.Peek(p)), x.val(one(&x, words))
			if x.below(3) == 0 {
				old.Word++
			}
			switch x.below(4) {
			case 0:
				if got, want := w.Load(a), g.Load(a); got != want {
					t.Fatal("Load", a, got, want)
				}
			case 1:
				w.Store(a, new)
				g.Store(a, new)
			case 2:
				if got, want := w.Swap(a, old, new), g.Swap(a, old, new); got != want {
					t.Fatal("Swap", a, old, new, got, want)
				}
			case 3:
				if got, want := w.Add(a, new.Word), g.Add(a, new.Word); got != want {
					t.Fatal("Add", a, got, want)
				}
			}
			if w.Peek(p) != g.Peek(p) || w.Count() != g.Count() {
				t.Fatal(p, w.Peek(p), g.Peek(p), w.Count(), g.Count())
			}
		}
	}
}

// Rule 4: a world hangs on what is done to it alone: of two that are worked on by turns each is its own model.
func TestApart(t *testing.T) {
	x := numbers(77)
	a, b := ideal.New(), ideal.New()
	ma, mb := &model{}, &model{}
	for range 300 {
		step(t, &x, a, ma)
		step(t, &x, b, mb)
	}
	check(t, a, ma)
	check(t, b, mb)
	loads(t, a, ma, places)
	loads(t, b, mb, places)
	if ma.count == mb.count {
		t.Error("the rows were the same")
	}
}

// P7.2: an ideal world is started as any world is: one Store of 1, that leads to nobody.
func TestStart(t *testing.T) {
	w := ideal.New()
	world.Start(w)
	if v := w.Load(ref(place.Epoch())); v != plain(1) || w.Peek(place.Epoch()) != 1 || w.Count() != (cell.Count{Loads: 1, Stores: 1}) {
		t.Error(v, w.Count())
	}
	if w.Souls().Count() != 0 {
		t.Error(w.Souls().Count())
	}
}

// P9.1, P9.2, rule 5: of nil zero values, false, nothing, in each method, at all arguments.
func TestNil(t *testing.T) {
	var w *ideal.Ideal
	x := numbers(5)
	for _, p := range append(shared, places...) {
		for _, word := range words {
			for _, id := range ids {
				w.Store(by(p, id), x.val(word))
				if v := w.Load(by(p, id)); v != (world.Val{}) {
					t.Error(p, id, v)
				}
				if w.Swap(by(p, id), x.val(word), x.val(word)) || w.Swap(by(p, id), x.val(0), x.val(word)) {
					t.Error(p, word, id, "a swap of nil was done")
				}
				if was := w.Add(by(p, id), word); was != 0 || w.Peek(p) != 0 || w.Content(id, p.Part) != 0 {
					t.Error(p, was, w.Peek(p), w.Content(id, p.Part))
				}
			}
		}
	}
	for _, slot := range slots {
		if id := w.Born(slot); id != 0 {
			t.Error(slot, id)
		}
	}
	world.Start(w)
	if w.Count() != (cell.Count{}) || w.Souls() != nil {
		t.Error(w.Count(), w.Souls())
	}
}

// P1: no call panics, of a world that no call made either.
func TestZero(t *testing.T) {
	for _, p := range append(shared, places...) {
		w := &ideal.Ideal{}
		world.Start(w)
		w.Load(by(p, 1))
		w.Store(by(p, 1), lead(1, 1))
		w.Swap(by(p, 1), plain(1), lead(2, 3))
		w.Swap(by(p, 1), plain(0), lead(2, 3))
		w.Add(by(p, 1), 3)
		w.Load(by(p, 1))
		w.Peek(p)
		w.Content(1, p.Part)
		w.Born(1)
		w.Souls().Born(1)
		w.Count()
	}
}
