package world_test

import (
	"math"
	"slices"
	"testing"

	"revenant/api"
	"revenant/cell"
	"revenant/place"
	"revenant/world"
)

// words are words, the ends of 64 bits among them.
var words = []uint64{0, 1, 2, 5, 255, 1<<32 - 1, 1 << 32, 1<<63 - 1, 1 << 63, 1<<63 + 1, math.MaxUint64 - 1, math.MaxUint64}

// ids are numbers as an Id and as a slot, below 0 and the ends of int among them.
var ids = []int{0, 1, 2, 3, 7, -1, -2, 1 << 31, 1 << 32, 1<<32 + 1, math.MaxInt, math.MinInt}

// places are places of a structure, and some that can't be.
var places = []api.Place{
	place.Epoch(), place.Pool(), place.Fresh(), place.Root(0), place.Root(63),
	place.Of(1, place.Birth), place.Of(1, place.Retire), place.Of(1, place.Chain), place.Of(1, place.Key), place.Of(2, place.Key), place.Link(1, 0), place.Link(api.MaxSlots, 15),
	{}, {Kind: 6}, {Kind: -1, Slot: -1, Part: -1}, {Kind: 1, Slot: 1}, {Kind: 5}, {Kind: 5, Slot: 1, Part: -1}, {Kind: 5, Slot: 1<<32 + 1, Part: 3},
	{Kind: math.MinInt, Slot: math.MaxInt, Part: math.MinInt}, {Kind: math.MaxInt, Slot: math.MinInt, Part: math.MaxInt},
}

// numbers are numbers that look like any, always the same.
type numbers uint64

// below is the next one, below n.
func (x *numbers) below(n int) int {
	*x = *x*6364136223846793005 + 1442695040888963407
	return int(*x>>33) % n
}

// one is one of a list.
func one[T any](x *numbers, list []T) T { return list[x.below(len(list))] }

// val is a word with any Id and Stale.
func (x *numbers) val(word uint64) world.Val {
	return world.Val{Word: word, Id: one(x, ids), Stale: x.below(2) == 0}
}

// at is a place with any Id.
func (x *numbers) at(p api.Place) world.At { return world.At{Place: p, Id: one(x, ids)} }

// plain is the value of a word that a plain world answers.
func plain(word uint64) world.Val { return world.Val{Word: word} }

// ref is the reference to a place without an Id.
func ref(p api.Place) world.At { return world.At{Place: p} }

// check holds a world's Peek, Count and Cells against layer 4's.
func check(t *testing.T, w *world.Plain, want *cell.Cells) {
	t.Helper()
	for _, p := range append(want.Places(), places...) {
		if got := w.Peek(p); got != want.Peek(p) {
			t.Fatal("Peek", p, got, want.Peek(p))
		}
	}
	if w.Count() != want.Count() {
		t.Fatal("Count", w.Count(), want.Count())
	}
	c := w.Cells()
	if c == nil || !cell.Same(c, want) || !slices.Equal(c.Places(), want.Places()) || c.Count() != (cell.Count{}) {
		t.Fatal("Cells", c.Places(), want.Places(), c.Count())
	}
	if w.Count() != want.Count() {
		t.Fatal("looking was counted", w.Count(), want.Count())
	}
}

// written is a world with a word at each of the places, and the cells that it should have.
func written() (*world.Plain, *cell.Cells) {
	w, c := world.New(), cell.New()
	for i, p := range places {
		w.Store(ref(p), plain(uint64(i)+100))
		c.Store(p, uint64(i)+100)
	}
	return w, c
}

// The example: a Store of the word 5 with the Id 3.
func TestExample(t *testing.T) {
	w := world.New()
	w.Store(ref(place.Root(0)), world.Val{Word: 5, Id: 3})
	if v := w.Load(ref(place.Root(0))); v != (world.Val{Word: 5, Id: 0}) {
		t.Error(v)
	}
}

// P7.1: New has nothing stored, and each New is another one.
func TestNew(t *testing.T) {
	w := world.New()
	if w == nil {
		t.Fatal("nil")
	}
	check(t, w, cell.New())
	if len(w.Cells().Places()) != 0 {
		t.Error(w.Cells().Places())
	}
	c := cell.New()
	for _, p := range places {
		for _, id := range ids {
			c.Load(p)
			if v := w.Load(world.At{Place: p, Id: id}); v != (world.Val{}) {
				t.Error(p, id, v)
			}
		}
	}
	check(t, w, c)
	other := world.New()
	other.Store(ref(place.Pool()), plain(7))
	if other == w || w.Peek(place.Pool()) != 0 {
		t.Error("two of New are one")
	}
	check(t, w, c)
}

// P7.1: what is stored is answered, by a reference with whatever Id, without an Id, and not as Stale, whatever was stored with it.
func TestStore(t *testing.T) {
	for _, p := range places {
		w, c := world.New(), cell.New()
		for _, word := range words {
			for _, id := range ids {
				for _, stale := range []bool{false, true} {
					w.Store(world.At{Place: p, Id: id}, world.Val{Word: word, Id: -id, Stale: stale})
					c.Store(p, word)
					for _, by := range ids {
						c.Load(p)
						if v := w.Load(world.At{Place: p, Id: by}); v != plain(word) {
							t.Fatal(p, word, id, stale, by, v)
						}
					}
				}
			}
			check(t, w, c)
		}
	}
}

// P7.1: one slot's cell is one cell, whoever is told as who the slot is, whichever access it is.
func TestWhoeverItIs(t *testing.T) {
	p := place.Of(3, place.Key)
	w := world.New()
	w.Store(world.At{Place: p, Id: 1}, world.Val{Word: 5, Id: 8})
	w.Born(3)
	if v := w.Load(world.At{Place: p, Id: 2}); v != plain(5) {
		t.Error(v)
	}
	if was := w.Add(world.At{Place: p, Id: 3}, 1); was != 5 || w.Peek(p) != 6 {
		t.Error(was, w.Peek(p))
	}
	if !w.Swap(world.At{Place: p, Id: -4}, plain(6), plain(7)) || w.Load(world.At{Place: p, Id: 1}) != plain(7) {
		t.Error(w.Peek(p))
	}
}

// P7.1: a swap is done just if the old word is there, whatever the words, and nothing is changed if it isn't.
func TestSwap(t *testing.T) {
	p, other := place.Link(2, 1), place.Link(2, 2)
	for _, there := range words {
		for _, old := range words {
			for _, new := range words {
				w, c := world.New(), cell.New()
				for _, q := range []api.Place{p, other} {
					w.Store(ref(q), plain(there))
					c.Store(q, there)
				}
				c.Swap(p, old, new)
				if done := w.Swap(ref(p), plain(old), plain(new)); done != (there == old) {
					t.Fatal(there, old, new, done)
				}
				check(t, w, c)
			}
		}
	}
}

// P7.1: neither Id nor Stale plays a part in what is swapped, nor is any of them answered behind it.
func TestSwapId(t *testing.T) {
	p := place.Root(2)
	for _, id := range ids {
		for _, stored := range ids {
			for _, old := range ids {
				for _, new := range ids {
					for k := range 8 {
						w := world.New()
						w.Store(ref(p), world.Val{Word: 4, Id: stored, Stale: k&1 != 0})
						a, o, n := world.At{Place: p, Id: id}, world.Val{Word: 4, Id: old, Stale: k&2 != 0}, world.Val{Word: 9, Id: new, Stale: k&4 != 0}
						if w.Swap(a, n, o) || w.Peek(p) != 4 {
							t.Fatal("another word was swapped", a, o, n)
						}
						if !w.Swap(a, o, n) || w.Load(a) != plain(9) {
							t.Fatal("the word that is there wasn't swapped", a, o, n)
						}
						if want := (cell.Count{Loads: 1, Stores: 1, Swaps: 2, Failed: 1}); w.Count() != want {
							t.Fatal(w.Count(), want)
						}
					}
				}
			}
		}
	}
}

// P7.1: a swap of a cell where nothing was stored is one of the word 0.
func TestSwapNothing(t *testing.T) {
	for _, p := range places {
		w, c := world.New(), cell.New()
		c.Swap(p, 1, 2)
		if w.Swap(ref(p), plain(1), plain(2)) {
			t.Error(p)
		}
		check(t, w, c)
		c.Swap(p, 0, math.MaxUint64)
		if !w.Swap(world.At{Place: p, Id: 6}, world.Val{Id: 5, Stale: true}, world.Val{Word: math.MaxUint64, Id: 4, Stale: true}) {
			t.Error(p)
		}
		check(t, w, c)
	}
}

// P7.1: Add answers what was there, and goes round 2^64.
func TestAdd(t *testing.T) {
	for _, there := range words {
		for _, n := range words {
			p := place.Fresh()
			w, c := world.New(), cell.New()
			w.Store(ref(p), world.Val{Word: there, Id: 2, Stale: true})
			c.Store(p, there)
			for range 2 {
				if got, want := w.Add(world.At{Place: p, Id: -3}, n), c.Add(p, n); got != want {
					t.Fatal(there, n, got, want)
				}
				check(t, w, c)
			}
			c.Load(p)
			if v := w.Load(ref(p)); v != plain(there+n+n) {
				t.Fatal(there, n, v)
			}
			check(t, w, c)
		}
	}
}

// P7.1: each access is counted as what it is, and nothing else is counted.
func TestCount(t *testing.T) {
	w := world.New()
	p := place.Pool()
	for i, s := range []struct {
		do   func()
		want cell.Count
	}{
		{func() { w.Load(ref(p)) }, cell.Count{Loads: 1}},
		{func() { w.Peek(p) }, cell.Count{Loads: 1}},
		{func() { w.Store(ref(p), plain(4)) }, cell.Count{Loads: 1, Stores: 1}},
		{func() { w.Store(ref(p), plain(4)) }, cell.Count{Loads: 1, Stores: 2}},
		{func() { w.Swap(ref(p), plain(4), plain(6)) }, cell.Count{Loads: 1, Stores: 2, Swaps: 1}},
		{func() { w.Swap(ref(p), plain(4), plain(7)) }, cell.Count{Loads: 1, Stores: 2, Swaps: 2, Failed: 1}},
		{func() { w.Add(ref(p), 5) }, cell.Count{Loads: 1, Stores: 2, Swaps: 2, Failed: 1, Adds: 1}},
		{func() { w.Add(ref(p), 0) }, cell.Count{Loads: 1, Stores: 2, Swaps: 2, Failed: 1, Adds: 2}},
		{func() { w.Born(1); w.Born(0) }, cell.Count{Loads: 1, Stores: 2, Swaps: 2, Failed: 1, Adds: 2}},
		{func() { w.Cells(); w.Count(); w.Peek(p) }, cell.Count{Loads: 1, Stores: 2, Swaps: 2, Failed: 1, Adds: 2}},
		{func() { w.Cells().Store(p, 1) }, cell.Count{Loads: 1, Stores: 2, Swaps: 2, Failed: 1, Adds: 2}},
	} {
		s.do()
		if w.Count() != s.want {
			t.Error(i, w.Count(), s.want)
		}
	}
	n := w.Count()
	n.Loads = 100
	if w.Count().Loads != 1 {
		t.Error("a count that was answered is the one that is kept")
	}
}

// P7.1: a Born of whatever slot is 0, and nothing happens, as often as it is told.
func TestBorn(t *testing.T) {
	for _, slot := range append([]int{api.MaxSlots, api.MaxSlots + 1, math.MaxInt - 1, math.MinInt + 1}, ids...) {
		bare := world.New()
		w, c := written()
		for range 3 {
			if id := bare.Born(slot); id != 0 {
				t.Error(slot, id)
			}
			if id := w.Born(slot); id != 0 {
				t.Error(slot, id)
			}
		}
		check(t, bare, cell.New())
		check(t, w, c)
		for _, p := range places {
			c.Load(p)
			if v := w.Load(world.At{Place: p, Id: 1}); v != plain(c.Peek(p)) {
				t.Error(slot, p, v)
			}
		}
		check(t, w, c)
	}
}

// P7.1, P1: places that can't be are cells as all others are, each of its own.
func TestPlaces(t *testing.T) {
	w, c := written()
	check(t, w, c)
	for i, p := range places {
		c.Load(p)
		if v := w.Load(ref(p)); v != plain(uint64(i)+100) {
			t.Error(p, v)
		}
	}
	for i, p := range places {
		word := uint64(i) + 100
		c.Swap(p, word, word*word)
		c.Add(p, 3)
		if !w.Swap(ref(p), plain(word), plain(word*word)) || w.Add(ref(p), 3) != word*word {
			t.Error(p, w.Peek(p))
		}
		check(t, w, c)
	}
}

// changes are what can be done to cells, one access each.
func changes(c *cell.Cells) []func() {
	p, q, none := place.Epoch(), place.Of(1, place.Key), place.Of(9, place.Key)
	return []func(){
		func() { c.Store(p, 1) },
		func() { c.Store(q, 0) },
		func() { c.Store(none, 7) },
		func() { c.Add(p, 1) },
		func() { c.Add(none, 1) },
		func() { c.Swap(q, c.Peek(q), 1) },
		func() { c.Swap(none, 0, 1) },
		func() { c.Load(p) },
	}
}

// P7.1, rule 3: a copy that was answered may be changed: the world is as it was, and so are other copies of it.
func TestCells(t *testing.T) {
	for i := range changes(nil) {
		w, want := written()
		one, other := w.Cells(), w.Cells()
		if one == other || one == w.Cells() {
			t.Fatal("two copies are one")
		}
		changes(one)[i]()
		check(t, w, want)
		if !cell.Same(other, want) || other.Count() != (cell.Count{}) {
			t.Error(i, other.Places(), other.Count())
		}
	}
	w := world.New()
	w.Cells().Store(place.Epoch(), 1)
	check(t, w, cell.New())
}

// P7.1, rule 3: a copy that was answered isn't changed by what is done in the world later.
func TestCellsLater(t *testing.T) {
	p, none := place.Epoch(), place.Of(9, place.Key)
	for i, change := range []func(w *world.Plain){
		func(w *world.Plain) { w.Store(ref(p), plain(1)) },
		func(w *world.Plain) { w.Store(ref(p), plain(0)) },
		func(w *world.Plain) { w.Store(ref(none), plain(1)) },
		func(w *world.Plain) { w.Add(ref(p), 1) },
		func(w *world.Plain) { w.Add(ref(none), 1) },
		func(w *world.Plain) { w.Swap(ref(p), plain(w.Peek(p)), plain(1)) },
		func(w *world.Plain) { w.Swap(ref(none), plain(0), plain(1)) },
		func(w *world.Plain) { world.Start(w) },
	} {
		w, want := written()
		c := w.Cells()
		change(w)
		if !cell.Same(c, want) || c.Count() != (cell.Count{}) || cell.Same(w.Cells(), want) {
			t.Error(i, c.Places(), c.Count())
		}
		empty := world.New()
		c = empty.Cells()
		change(empty)
		if len(c.Places()) != 0 || c.Count() != (cell.Count{}) {
			t.Error(i, c.Places(), c.Count())
		}
	}
}

// step makes one access of any kind, at any of the places, in a world and in cells, and holds what is answered against each other.
func step(t *testing.T, x *numbers, w world.World, c *cell.Cells) {
	t.Helper()
	p, word, new := one(x, places), one(x, words), one(x, words)
	if x.below(2) == 0 {
		word = c.Peek(p)
	}
	switch x.below(6) {
	case 0:
		if got, want := w.Load(x.at(p)), plain(c.Load(p)); got != want {
			t.Fatal("Load", p, got, want)
		}
	case 1:
		w.Store(x.at(p), x.val(new))
		c.Store(p, new)
	case 2:
		if got, want := w.Swap(x.at(p), x.val(word), x.val(new)), c.Swap(p, word, new); got != want {
			t.Fatal("Swap", p, word, new, got, want)
		}
	case 3:
		if got, want := w.Add(x.at(p), new), c.Add(p, new); got != want {
			t.Fatal("Add", p, new, got, want)
		}
	case 4:
		if got, want := w.Peek(p), c.Peek(p); got != want {
			t.Fatal("Peek", p, got, want)
		}
	case 5:
		if id := w.Born(one(x, ids)); id != 0 {
			t.Fatal("Born", id)
		}
	}
}

// P7.1: rows of accesses of several places, held against layer 4's behind each one.
func TestMany(t *testing.T) {
	for seed := range 20 {
		x := numbers(seed)
		w, c := world.New(), cell.New()
		for range 300 {
			step(t, &x, w, c)
			check(t, w, c)
		}
	}
}

// Rule 4: a world hangs on what is done to it alone: of two that are worked on by turns each is its own cells.
func TestApart(t *testing.T) {
	x := numbers(77)
	a, b := world.New(), world.New()
	ca, cb := cell.New(), cell.New()
	for range 300 {
		step(t, &x, a, ca)
		step(t, &x, b, cb)
	}
	check(t, a, ca)
	check(t, b, cb)
	if cell.Same(ca, cb) {
		t.Error("the rows were the same")
	}
}

// P7.2: Start of a plain world: the epoch's cell is 1, by one Store and no other access, and no other cell is changed.
func TestStart(t *testing.T) {
	w := world.New()
	world.Start(w)
	if w.Peek(place.Epoch()) != 1 || w.Count() != (cell.Count{Stores: 1}) || !slices.Equal(w.Cells().Places(), []api.Place{place.Epoch()}) {
		t.Error(w.Peek(place.Epoch()), w.Count(), w.Cells().Places())
	}
	if v := w.Load(ref(place.Epoch())); v != plain(1) {
		t.Error(v)
	}
	for _, word := range words {
		w, c := written()
		w.Store(ref(place.Epoch()), plain(word))
		c.Store(place.Epoch(), word)
		world.Start(w)
		c.Store(place.Epoch(), 1)
		check(t, w, c)
	}
}

// told is a world that keeps what was asked of it.
type told struct {
	at   []world.At
	vals []world.Val
	asks int
}

func (w *told) Load(world.At) world.Val { w.asks++; return world.Val{Word: 1} }
func (w *told) Store(a world.At, v world.Val) {
	w.at, w.vals = append(w.at, a), append(w.vals, v)
}
func (w *told) Swap(world.At, world.Val, world.Val) bool { w.asks++; return true }
func (w *told) Add(world.At, uint64) uint64              { w.asks++; return 0 }
func (w *told) Born(int) int                             { w.asks++; return 1 }
func (w *told) Peek(api.Place) uint64                    { w.asks++; return 1 }
func (w *told) Count() cell.Count                        { w.asks++; return cell.Count{} }

// P7.2: Start asks one Store of any world, and nothing else: of the epoch's cell, which is nobody's, of the word 1, which leads to nobody.
func TestStartAsks(t *testing.T) {
	w := &told{}
	for n := 1; n <= 3; n++ {
		world.Start(w)
		if w.asks != 0 || len(w.at) != n || w.at[n-1] != ref(place.Epoch()) || w.vals[n-1] != plain(1) {
			t.Error(n, w.asks, w.at, w.vals)
		}
	}
}

// around is a world of another package, with a world in it: of nil, and around none, it panics.
type around struct{ world.World }

// refusing is a world whose Store panics.
type refusing struct{ *world.Plain }

func (r refusing) Store(world.At, world.Val) { panic("no") }

// P7.2, P1: nothing of a nil world, of none, of one that holds nil, and no panic of another's goes on.
func TestStartNil(t *testing.T) {
	var p *world.Plain
	var a *around
	for range 2 {
		world.Start(nil)
		world.Start(p)
		world.Start(a)
		world.Start(around{})
		world.Start(around{p})
		world.Start(&around{a})
	}
	if p.Peek(place.Epoch()) != 0 || p.Count() != (cell.Count{}) {
		t.Error(p.Peek(place.Epoch()), p.Count())
	}
	w, c := written()
	world.Start(refusing{w})
	check(t, w, c)
	world.Start(around{w})
	c.Store(place.Epoch(), 1)
	check(t, w, c)
}

// P7.1, rule 5: of nil zero values, false, nothing, in each method, at all arguments.
func TestNil(t *testing.T) {
	var w *world.Plain
	x := numbers(5)
	for _, p := range places {
		for _, word := range words {
			for _, new := range words {
				w.Store(x.at(p), x.val(new))
				if v := w.Load(x.at(p)); v != (world.Val{}) {
					t.Error(p, v)
				}
				if w.Swap(x.at(p), x.val(word), x.val(new)) {
					t.Error(p, word, new, "a swap of nil was done")
				}
				if was := w.Add(x.at(p), new); was != 0 || w.Peek(p) != 0 {
					t.Error(p, was, w.Peek(p))
				}
			}
		}
	}
	for _, slot := range ids {
		if id := w.Born(slot); id != 0 {
			t.Error(slot, id)
		}
	}
	if w.Count() != (cell.Count{}) || w.Cells() != nil {
		t.Error(w.Count(), w.Cells())
	}
}

// P1: no call panics, of a world that no call made either.
func TestZero(t *testing.T) {
	for _, p := range places {
		w := &world.Plain{}
		world.Start(w)
		w.Store(ref(p), plain(1))
		w.Swap(ref(p), plain(1), plain(2))
		w.Swap(ref(p), plain(0), plain(2))
		w.Add(ref(p), 3)
		w.Load(ref(p))
		w.Peek(p)
		w.Born(1)
		w.Count()
		w.Cells().Places()
	}
}
