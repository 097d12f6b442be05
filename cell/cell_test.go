package cell_test

import (
	"maps"
	"math"
	"math/big"
	"reflect"
	"slices"
	"testing"

	"revenant/api"
	"revenant/cell"
)

// at is a place.
func at(kind, slot, part int) api.Place { return api.Place{Kind: kind, Slot: slot, Part: part} }

// parts are numbers of a place, negative ones and the ends of int among them. Many are alike in their low bits.
var parts = []int{math.MinInt, math.MinInt + 1, -1 << 32, -256, -2, -1, 0, 1, 2, 3, 5, 7, 10, 256, 1 << 31, 1 << 32, 1<<32 + 1, 1 << 62, math.MaxInt - 1, math.MaxInt}

// words are words, the ends of 64 bits among them.
var words = []uint64{0, 1, 2, 5, 255, 256, 1<<32 - 1, 1 << 32, 1 << 62, 1<<63 - 1, 1 << 63, 1<<63 + 1, math.MaxUint64 - 1, math.MaxUint64}

// places are the places of all those numbers, in order: parts rises.
func places() []api.Place {
	var list []api.Place
	for _, k := range parts {
		for _, s := range parts {
			for _, p := range parts {
				list = append(list, at(k, s, p))
			}
		}
	}
	return list
}

// mixed are the same things in another order: each step goes on by a number that has no divisor in common with how many there are.
func mixed[T any](list []T) []T {
	step := 7919 % len(list)
	for big.NewInt(0).GCD(nil, nil, big.NewInt(int64(step)), big.NewInt(int64(len(list)))).Int64() != 1 {
		step++
	}
	var out []T
	for i := range list {
		out = append(out, list[i*step%len(list)])
	}
	return out
}

// sum is a and b modulo 2^64, by numbers that don't go round.
func sum(a, b uint64) uint64 {
	s := new(big.Int).Add(new(big.Int).SetUint64(a), new(big.Int).SetUint64(b))
	return s.Mod(s, new(big.Int).Lsh(big.NewInt(1), 64)).Uint64()
}

// numbers are numbers that look like any, always the same.
type numbers uint64

// below is the next one, below n.
func (x *numbers) below(n int) int {
	*x = *x*6364136223846793005 + 1442695040888963407
	return int(*x>>33) % n
}

// model is what the document says of cells, as plainly as it can be: each word ever written, the last one first.
type model struct {
	written []written
	count   cell.Count
}

type written struct {
	at   api.Place
	word uint64
}

func (m *model) peek(p api.Place) uint64 {
	for _, w := range slices.Backward(m.written) {
		if w.at == p {
			return w.word
		}
	}
	return 0
}

func (m *model) load(p api.Place) uint64 {
	m.count.Loads++
	return m.peek(p)
}

func (m *model) store(p api.Place, w uint64) {
	m.count.Stores++
	m.written = append(m.written, written{p, w})
}

func (m *model) swap(p api.Place, old, new uint64) bool {
	m.count.Swaps++
	if m.peek(p) == old {
		m.written = append(m.written, written{p, new})
		return true
	}
	m.count.Failed++
	return false
}

func (m *model) add(p api.Place, n uint64) uint64 {
	m.count.Adds++
	was := m.peek(p)
	m.written = append(m.written, written{p, sum(was, n)})
	return was
}

func (m *model) places() []api.Place {
	var list []api.Place
	for _, w := range m.written {
		if m.peek(w.at) != 0 && !slices.Contains(list, w.at) {
			list = append(list, w.at)
		}
	}
	slices.SortFunc(list, order)
	return list
}

func (m *model) copy() *model { return &model{written: slices.Clone(m.written)} }

// same is whether two have the same words wherever one of them was ever written.
func (m *model) same(o *model) bool {
	for _, w := range append(slices.Clone(m.written), o.written...) {
		if m.peek(w.at) != o.peek(w.at) {
			return false
		}
	}
	return true
}

// order is how two places stand.
func order(a, b api.Place) int {
	for _, n := range [][2]int{{a.Kind, b.Kind}, {a.Slot, b.Slot}, {a.Part, b.Part}} {
		if n[0] < n[1] {
			return -1
		}
		if n[0] > n[1] {
			return 1
		}
	}
	return 0
}

// check holds cells against a model.
func check(t *testing.T, c *cell.Cells, m *model) {
	t.Helper()
	if c.Count() != m.count {
		t.Fatal(c.Count(), m.count)
	}
	list := c.Places()
	if !slices.Equal(list, m.places()) {
		t.Fatal(list, m.places())
	}
	for _, w := range m.written {
		if c.Peek(w.at) != m.peek(w.at) {
			t.Fatal(w.at, c.Peek(w.at), m.peek(w.at))
		}
	}
	if c.Count() != m.count {
		t.Fatal("looking was counted", c.Count(), m.count)
	}
}

// P4.1: the chapter's example.
func TestExample(t *testing.T) {
	c := cell.New()
	p := at(5, 1, 3)
	c.Store(p, 5)
	if was := c.Add(p, 3); was != 5 || c.Load(p) != 8 {
		t.Error(was, c.Load(p))
	}
}

// P4.1: of New all cells are 0, and nothing is counted.
func TestNew(t *testing.T) {
	c := cell.New()
	if c == nil {
		t.Fatal("nil")
	}
	if c.Count() != (cell.Count{}) || len(c.Places()) != 0 {
		t.Error(c.Count(), c.Places())
	}
	for _, p := range places() {
		if c.Peek(p) != 0 {
			t.Error(p, c.Peek(p))
		}
		if w := c.Load(p); w != 0 {
			t.Error(p, w)
		}
	}
	if len(c.Places()) != 0 || !cell.Same(c, cell.New()) {
		t.Error("loads wrote something", c.Places())
	}
}

// P4.1: each New is another one.
func TestNewApart(t *testing.T) {
	a, b := cell.New(), cell.New()
	a.Store(at(1, 0, 0), 7)
	if b.Peek(at(1, 0, 0)) != 0 || b.Count() != (cell.Count{}) || a == b {
		t.Error(b.Peek(at(1, 0, 0)), b.Count())
	}
}

// P4.1: Load and Peek, of what was stored, where something or nothing was ahead of it.
func TestStore(t *testing.T) {
	for _, p := range []api.Place{{}, at(1, 0, 0), at(5, 8, 7), at(-1, -2, -3), at(math.MinInt, math.MaxInt, math.MinInt)} {
		c := cell.New()
		for _, was := range words {
			for _, w := range words {
				c.Store(p, was)
				c.Store(p, w)
				if c.Load(p) != w || c.Load(p) != w || c.Peek(p) != w {
					t.Error(p, was, w, c.Load(p))
				}
			}
		}
	}
}

// P4.1: Swap writes just if the old word is there, of cells where nothing was stored too, and says whether.
func TestSwap(t *testing.T) {
	p := at(4, 0, 2)
	for _, there := range words {
		for _, old := range words {
			for _, new := range words {
				c := cell.New()
				if there != 0 {
					c.Store(p, there)
				}
				want := there
				if there == old {
					want = new
				}
				if done := c.Swap(p, old, new); done != (there == old) || c.Peek(p) != want {
					t.Error(there, old, new, done, c.Peek(p))
				}
			}
		}
	}
}

// P4.1: a swap to the word that is there is done, and counted as one.
func TestSwapSame(t *testing.T) {
	c := cell.New()
	p := at(5, 1, 7)
	if !c.Swap(p, 0, 0) || c.Peek(p) != 0 || len(c.Places()) != 0 {
		t.Error(c.Peek(p), c.Places())
	}
	c.Store(p, 9)
	if !c.Swap(p, 9, 9) || c.Peek(p) != 9 {
		t.Error(c.Peek(p))
	}
	if c.Swap(p, 8, 8) || c.Peek(p) != 9 {
		t.Error(c.Peek(p))
	}
	if c.Count() != (cell.Count{Stores: 1, Swaps: 3, Failed: 1}) {
		t.Error(c.Count())
	}
}

// P4.1: Add answers what was there, and goes round 2^64.
func TestAdd(t *testing.T) {
	p := at(3, 0, 0)
	for _, there := range words {
		for _, n := range words {
			c := cell.New()
			if there != 0 {
				c.Store(p, there)
			}
			if was := c.Add(p, n); was != there || c.Peek(p) != sum(there, n) {
				t.Error(there, n, was, c.Peek(p))
			}
			if was := c.Add(p, n); was != sum(there, n) || c.Peek(p) != sum(sum(there, n), n) {
				t.Error(there, n, was, c.Peek(p))
			}
		}
	}
}

// P4.2: each kind of access is counted, done or not, and nothing else is.
func TestCount(t *testing.T) {
	c := cell.New()
	p := at(2, 0, 0)
	for i, s := range []struct {
		do   func()
		want cell.Count
	}{
		{func() { c.Load(p) }, cell.Count{Loads: 1}},
		{func() { c.Load(at(9, 9, 9)) }, cell.Count{Loads: 2}},
		{func() { c.Peek(p) }, cell.Count{Loads: 2}},
		{func() { c.Store(p, 4) }, cell.Count{Loads: 2, Stores: 1}},
		{func() { c.Store(p, 4) }, cell.Count{Loads: 2, Stores: 2}},
		{func() { c.Store(p, 0) }, cell.Count{Loads: 2, Stores: 3}},
		{func() { c.Swap(p, 0, 6) }, cell.Count{Loads: 2, Stores: 3, Swaps: 1}},
		{func() { c.Swap(p, 0, 7) }, cell.Count{Loads: 2, Stores: 3, Swaps: 2, Failed: 1}},
		{func() { c.Swap(p, 6, 6) }, cell.Count{Loads: 2, Stores: 3, Swaps: 3, Failed: 1}},
		{func() { c.Add(p, 0) }, cell.Count{Loads: 2, Stores: 3, Swaps: 3, Failed: 1, Adds: 1}},
		{func() { c.Add(p, 5) }, cell.Count{Loads: 2, Stores: 3, Swaps: 3, Failed: 1, Adds: 2}},
		{func() { c.Places() }, cell.Count{Loads: 2, Stores: 3, Swaps: 3, Failed: 1, Adds: 2}},
		{func() { c.Count() }, cell.Count{Loads: 2, Stores: 3, Swaps: 3, Failed: 1, Adds: 2}},
		{func() { c.Copy() }, cell.Count{Loads: 2, Stores: 3, Swaps: 3, Failed: 1, Adds: 2}},
		{func() { cell.Same(c, c); cell.Same(c, nil); cell.Same(nil, c) }, cell.Count{Loads: 2, Stores: 3, Swaps: 3, Failed: 1, Adds: 2}},
	} {
		s.do()
		if c.Count() != s.want {
			t.Error(i, c.Count(), s.want)
		}
	}
	n := c.Count()
	n.Loads = 100
	if c.Count().Loads != 2 {
		t.Error("a count that was answered is the one that is kept")
	}
}

// P4.2: Places are by rising Kind, Slot and Part, in whatever order they were written.
func TestPlaces(t *testing.T) {
	want := places()
	for i, list := range [][]api.Place{want, mixed(want), mixed(mixed(want))} {
		c := cell.New()
		for j, p := range list {
			c.Store(p, uint64(len(list)-j))
		}
		if got := c.Places(); !slices.Equal(got, want) {
			t.Error(i, len(got), len(want))
		}
	}
	c := cell.New()
	for _, p := range []api.Place{at(2, 1, 1), at(1, 2, 1), at(1, 1, 2), at(1, 1, -3), at(-1, 9, 9), at(1, -9, 9), at(math.MaxInt, 0, 0), at(math.MinInt, 0, 0)} {
		c.Add(p, 1)
	}
	want = []api.Place{at(math.MinInt, 0, 0), at(-1, 9, 9), at(1, -9, 9), at(1, 1, -3), at(1, 1, 2), at(1, 2, 1), at(2, 1, 1), at(math.MaxInt, 0, 0)}
	if got := c.Places(); !slices.Equal(got, want) {
		t.Error(got)
	}
}

// P4.2: a cell whose word becomes 0 again, by whichever access, isn't one of Places, and is one again behind.
func TestPlacesZero(t *testing.T) {
	p, other := at(5, 2, 4), at(5, 2, 5)
	for i, zero := range []func(c *cell.Cells){
		func(c *cell.Cells) { c.Store(p, 0) },
		func(c *cell.Cells) { c.Swap(p, 6, 0) },
		func(c *cell.Cells) { c.Add(p, math.MaxUint64-5) },
	} {
		c, never := cell.New(), cell.New()
		c.Store(other, 1)
		never.Store(other, 1)
		c.Store(p, 6)
		if !slices.Equal(c.Places(), []api.Place{p, other}) || cell.Same(c, never) {
			t.Error(i, c.Places())
		}
		zero(c)
		if !slices.Equal(c.Places(), []api.Place{other}) || c.Peek(p) != 0 || c.Load(p) != 0 {
			t.Error(i, c.Places(), c.Peek(p))
		}
		if !cell.Same(c, never) || !cell.Same(never, c) || !cell.Same(c.Copy(), never) {
			t.Error(i, "a cell that is 0 again isn't like one where nothing was stored")
		}
		if !c.Swap(p, 0, 3) || !slices.Equal(c.Places(), []api.Place{p, other}) {
			t.Error(i, c.Places())
		}
	}
}

// P4.2: what writes a 0 where nothing is, or writes nothing, makes no place.
func TestPlacesNone(t *testing.T) {
	c := cell.New()
	p := at(1, 0, 0)
	c.Store(p, 0)
	c.Swap(p, 0, 0)
	c.Swap(p, 1, 2)
	c.Add(p, 0)
	c.Load(p)
	c.Peek(p)
	if len(c.Places()) != 0 || !cell.Same(c, cell.New()) || !cell.Same(cell.New(), c) {
		t.Error(c.Places())
	}
}

// P4.2: a list of places is new memory.
func TestPlacesApart(t *testing.T) {
	c := cell.New()
	for i := range 9 {
		c.Store(at(5, 9-i, i), 1)
	}
	list := c.Places()
	want := slices.Clone(list)
	again := c.Places()
	clear(list[:cap(list)])
	if !slices.Equal(again, want) || !slices.Equal(c.Places(), want) {
		t.Error(again, c.Places())
	}
	list = append(c.Places()[:2], at(7, 7, 7))
	if !slices.Equal(c.Places(), want) || len(list) != 3 || c.Peek(at(7, 7, 7)) != 0 {
		t.Error(c.Places())
	}
}

// P4.2: a copy has the same words, and nothing is counted of it; what it was copied from is as it was.
func TestCopy(t *testing.T) {
	c := cell.New()
	list := mixed(places())
	for i, p := range list {
		c.Store(p, uint64(i))
	}
	c.Load(list[5])
	c.Swap(list[5], 0, 1)
	c.Swap(list[6], 6, 7)
	c.Add(list[7], 1)
	count := c.Count()
	if count != (cell.Count{Loads: 1, Stores: len(list), Swaps: 2, Failed: 1, Adds: 1}) {
		t.Error(count)
	}
	d := c.Copy()
	if d == nil || d == c || d.Count() != (cell.Count{}) || c.Count() != count {
		t.Fatal(d.Count(), c.Count())
	}
	for _, p := range list {
		if d.Peek(p) != c.Peek(p) {
			t.Fatal(p, d.Peek(p), c.Peek(p))
		}
	}
	if !slices.Equal(c.Places(), d.Places()) || !cell.Same(c, d) || !cell.Same(d, c) {
		t.Error(len(c.Places()), len(d.Places()))
	}
	if e := cell.New().Copy(); e == nil || len(e.Places()) != 0 || e.Count() != (cell.Count{}) || !cell.Same(e, cell.New()) {
		t.Error(e.Places())
	}
}

// P4.2: a copy and what it was copied from, each changed behind the copy, by each kind of access; of none is the other's words or its count changed.
func TestCopyApart(t *testing.T) {
	p, q, r := at(5, 1, 3), at(5, 1, 4), at(5, 2, 3)
	for i, change := range []func(c *cell.Cells){
		func(c *cell.Cells) { c.Store(p, 100) },
		func(c *cell.Cells) { c.Store(p, 0) },
		func(c *cell.Cells) { c.Store(r, 100) },
		func(c *cell.Cells) { c.Swap(q, 2, 100) },
		func(c *cell.Cells) { c.Swap(q, 2, 0) },
		func(c *cell.Cells) { c.Swap(r, 0, 100) },
		func(c *cell.Cells) { c.Add(p, 100) },
		func(c *cell.Cells) { c.Add(p, math.MaxUint64) },
		func(c *cell.Cells) { c.Add(r, 100) },
		func(c *cell.Cells) { c.Load(p); c.Load(r); c.Store(at(-1, -1, -1), 9) },
	} {
		for _, first := range []bool{false, true} {
			c := cell.New()
			c.Store(p, 1)
			c.Store(q, 2)
			d := c.Copy()
			changed, kept := c, d
			if first {
				changed, kept = d, c
			}
			count := kept.Count()
			change(changed)
			if kept.Peek(p) != 1 || kept.Peek(q) != 2 || kept.Peek(r) != 0 || kept.Count() != count || !slices.Equal(kept.Places(), []api.Place{p, q}) {
				t.Error(i, first, kept.Peek(p), kept.Peek(q), kept.Peek(r), kept.Count(), kept.Places())
			}
			if cell.Same(c, d) || cell.Same(d, c) {
				t.Error(i, first, "still the same")
			}
		}
	}
}

// P4.2: a copy of New is apart from it, whichever is written first.
func TestCopyOfNone(t *testing.T) {
	p := at(1, 0, 0)
	for _, first := range []bool{false, true} {
		c := cell.New()
		d := c.Copy()
		changed, kept := c, d
		if first {
			changed, kept = d, c
		}
		changed.Add(p, 3)
		if kept.Peek(p) != 0 || len(kept.Places()) != 0 || kept.Count() != (cell.Count{}) || changed.Peek(p) != 3 {
			t.Error(first, kept.Peek(p), kept.Count(), changed.Peek(p))
		}
	}
}

// P4.2: the counts of a copy go on from nothing, those of what was copied from where they were; of a copy of a copy too.
func TestCopyCount(t *testing.T) {
	p := at(1, 0, 0)
	c := cell.New()
	c.Store(p, 1)
	d := c.Copy()
	d.Load(p)
	d.Swap(p, 2, 3)
	e := d.Copy()
	e.Add(p, 1)
	c.Store(p, 5)
	if c.Count() != (cell.Count{Stores: 2}) || d.Count() != (cell.Count{Loads: 1, Swaps: 1, Failed: 1}) || e.Count() != (cell.Count{Adds: 1}) {
		t.Error(c.Count(), d.Count(), e.Count())
	}
	if c.Peek(p) != 5 || d.Peek(p) != 1 || e.Peek(p) != 2 {
		t.Error(c.Peek(p), d.Peek(p), e.Peek(p))
	}
}

// P4.2: Same of cells that came to the same words by other ways.
func TestSame(t *testing.T) {
	p, q := at(1, 0, 0), at(4, 0, 1)
	ways := []func(c *cell.Cells){
		func(c *cell.Cells) { c.Store(p, 3); c.Store(q, 1) },
		func(c *cell.Cells) { c.Store(q, 1); c.Store(p, 3) },
		func(c *cell.Cells) { c.Add(p, 1); c.Add(q, 1); c.Add(p, 2) },
		func(c *cell.Cells) { c.Swap(p, 0, 8); c.Swap(p, 8, 3); c.Swap(p, 8, 9); c.Swap(q, 0, 1) },
		func(c *cell.Cells) { c.Store(p, 4); c.Add(p, math.MaxUint64); c.Store(q, 2); c.Swap(q, 2, 1) },
		func(c *cell.Cells) {
			for _, r := range places() {
				c.Add(r, 3)
			}
			for _, r := range mixed(places()) {
				c.Add(r, math.MaxUint64-2)
			}
			c.Store(p, 3)
			c.Store(q, 1)
			c.Load(p)
		},
	}
	for i, one := range ways {
		for j, other := range ways {
			a, b := cell.New(), cell.New()
			one(a)
			other(b)
			if !cell.Same(a, b) || !cell.Same(a, a) || !cell.Same(a.Copy(), b) {
				t.Error(i, j, a.Places(), b.Places())
			}
		}
	}
}

// P4.2: Same tells one cell that isn't the same: a word more, a word less, another word, and the same word at another place.
func TestSameNot(t *testing.T) {
	base := func() *cell.Cells {
		c := cell.New()
		c.Store(at(1, 2, 3), 1)
		c.Store(at(4, 5, 6), 2)
		return c
	}
	for i, change := range []func(c *cell.Cells){
		func(c *cell.Cells) { c.Store(at(7, 8, 9), 1) },
		func(c *cell.Cells) { c.Store(at(0, 0, 0), 1) },
		func(c *cell.Cells) { c.Store(at(1, 2, 3), 0) },
		func(c *cell.Cells) { c.Store(at(4, 5, 6), 0) },
		func(c *cell.Cells) { c.Store(at(1, 2, 3), 2) },
		func(c *cell.Cells) { c.Store(at(1, 2, 3), 1+1<<63) },
		func(c *cell.Cells) { c.Store(at(4, 5, 6), 0); c.Store(at(4, 5, 7), 2) },
		func(c *cell.Cells) { c.Store(at(4, 5, 6), 0); c.Store(at(4, 6, 6), 2) },
		func(c *cell.Cells) { c.Store(at(4, 5, 6), 0); c.Store(at(5, 5, 6), 2) },
		func(c *cell.Cells) { c.Store(at(1, 2, 3), 2); c.Store(at(4, 5, 6), 1) },
		func(c *cell.Cells) { c.Store(at(1, 2, 3), 0); c.Store(at(4, 5, 6), 0) },
	} {
		a, b := base(), base()
		if !cell.Same(a, b) {
			t.Fatal(i)
		}
		change(b)
		if cell.Same(a, b) || cell.Same(b, a) {
			t.Error(i, a.Places(), b.Places())
		}
	}
}

// P4.1, P4.2: of nil 0, false, nothing; nil is the same as nil alone.
func TestNil(t *testing.T) {
	var c *cell.Cells
	for _, p := range []api.Place{{}, at(1, 0, 0), at(math.MinInt, math.MaxInt, -1)} {
		for _, w := range words {
			c.Store(p, w)
			if c.Swap(p, 0, w) || c.Swap(p, w, w) || c.Swap(p, w, 0) {
				t.Error(p, w, "a swap of nil was done")
			}
			if c.Load(p) != 0 || c.Peek(p) != 0 || c.Add(p, w) != 0 {
				t.Error(p, w, c.Load(p), c.Peek(p))
			}
		}
	}
	if c.Count() != (cell.Count{}) || len(c.Places()) != 0 || c.Copy() != nil {
		t.Error(c.Count(), c.Places(), c.Copy())
	}
	full := cell.New()
	full.Store(at(1, 0, 0), 1)
	if !cell.Same(nil, nil) || !cell.Same(c, c.Copy()) {
		t.Error("nil isn't the same as nil")
	}
	for i, d := range []*cell.Cells{cell.New(), full, full.Copy()} {
		if cell.Same(nil, d) || cell.Same(d, nil) {
			t.Error(i, "nil is the same as something")
		}
	}
}

// P1: no call panics, of cells that no call made either.
func TestZero(t *testing.T) {
	p := at(5, 1, 3)
	for _, do := range []func(c *cell.Cells){
		func(c *cell.Cells) { c.Store(p, 1) },
		func(c *cell.Cells) { c.Store(p, 0) },
		func(c *cell.Cells) { c.Swap(p, 0, 1) },
		func(c *cell.Cells) { c.Add(p, 1) },
		func(c *cell.Cells) { c.Load(p); c.Peek(p); c.Count(); c.Places() },
		func(c *cell.Cells) { c.Copy().Store(p, 1) },
		func(c *cell.Cells) { cell.Same(c, c); cell.Same(c, nil); cell.Same(nil, c); cell.Same(c, cell.New()) },
	} {
		do(&cell.Cells{})
	}
}

// P4.3: what is written at one place changes no other one's word, however near or like it is.
func TestApart(t *testing.T) {
	list := places()
	c := cell.New()
	for i, p := range list {
		c.Store(p, uint64(i)+1)
	}
	for i, p := range list {
		if c.Load(p) != uint64(i)+1 {
			t.Fatal(p, c.Load(p), i+1)
		}
	}
	for i, p := range mixed(list) {
		switch i % 4 {
		case 0:
			c.Store(p, 0)
		case 1:
			c.Add(p, 1<<40)
		case 2:
			c.Swap(p, c.Peek(p), 1<<50)
		case 3:
			c.Swap(p, c.Peek(p)+1, 1<<51)
		}
	}
	was := map[api.Place]uint64{}
	for i, p := range list {
		was[p] = uint64(i) + 1
	}
	for i, p := range mixed(list) {
		want := []uint64{0, was[p] + 1<<40, 1 << 50, was[p]}[i%4]
		if c.Peek(p) != want {
			t.Fatal(p, c.Peek(p), want)
		}
	}
}

// P4.3: one place's access leaves all others as they were, one by one.
func TestApartEach(t *testing.T) {
	near := []api.Place{}
	for k := -1; k <= 2; k++ {
		for s := -1; s <= 2; s++ {
			for p := -1; p <= 2; p++ {
				near = append(near, at(k, s, p))
			}
		}
	}
	for i, p := range near {
		for j, change := range []func(c *cell.Cells){
			func(c *cell.Cells) { c.Store(p, 1000) },
			func(c *cell.Cells) { c.Store(p, 0) },
			func(c *cell.Cells) { c.Swap(p, uint64(i)+1, 1000) },
			func(c *cell.Cells) { c.Add(p, 1000) },
		} {
			c := cell.New()
			for k, q := range near {
				c.Store(q, uint64(k)+1)
			}
			change(c)
			for k, q := range near {
				if want := uint64(k) + 1; (c.Peek(q) == want) != (k != i) {
					t.Error(j, p, q, c.Peek(q), want)
				}
			}
		}
	}
}

// P4.3: a swap is done just if nothing else came between: of many that would all swap the word that they read, one is.
func TestSwapBetween(t *testing.T) {
	c := cell.New()
	p, other := at(4, 0, 0), at(4, 0, 1)
	c.Store(p, 5)
	read := c.Load(p)
	for i, between := range []func(){
		func() { c.Store(p, 6) },
		func() { c.Swap(p, 5, 6) },
		func() { c.Add(p, 1) },
	} {
		c.Store(p, 5)
		between()
		if c.Swap(p, read, 7) || c.Peek(p) != 6 {
			t.Error(i, c.Peek(p))
		}
	}
	c.Store(p, 5)
	c.Store(other, 6)
	c.Add(other, 1)
	c.Load(p)
	c.Swap(p, 4, 6)
	c.Add(p, 0)
	if !c.Swap(p, read, 7) || c.Peek(p) != 7 || c.Peek(other) != 7 {
		t.Error(c.Peek(p), c.Peek(other))
	}
	for round := range 20 {
		read, done := c.Load(p), 0
		for i := range 10 {
			if c.Swap(p, read, uint64(100+round*10+i)) {
				done++
			}
		}
		if done != 1 || c.Peek(p) != uint64(100+round*10) {
			t.Error(round, done, c.Peek(p))
		}
	}
}

// P4.1 to P4.3: many accesses, of few places and few words, held against the document's own words; copies are made between, and changed on.
func TestMany(t *testing.T) {
	for seed := range 40 {
		x := numbers(seed)
		few := mixed(places())[seed*20:][:6]
		cells, models := []*cell.Cells{cell.New()}, []*model{{}}
		for range 300 {
			i := x.below(len(cells))
			c, m := cells[i], models[i]
			p, w, v := few[x.below(len(few))], words[x.below(len(words))], words[x.below(4)]
			switch x.below(8) {
			case 0:
				if got, want := c.Load(p), m.load(p); got != want {
					t.Fatal(seed, p, got, want)
				}
			case 1:
				c.Store(p, w)
				m.store(p, w)
			case 2, 3:
				old := m.peek(p)
				if got, want := c.Swap(p, old, v), m.swap(p, old, v); got != want {
					t.Fatal(seed, p, got, want)
				}
			case 4:
				if got, want := c.Swap(p, w, v), m.swap(p, w, v); got != want {
					t.Fatal(seed, p, got, want)
				}
			case 5, 6:
				n := []uint64{w, -m.peek(p)}[x.below(2)]
				if got, want := c.Add(p, n), m.add(p, n); got != want {
					t.Fatal(seed, p, got, want)
				}
			case 7:
				if len(cells) < 4 {
					cells, models = append(cells, c.Copy()), append(models, m.copy())
				}
			}
			if x.below(10) == 0 {
				check(t, c, m)
			}
		}
		for i := range cells {
			check(t, cells[i], models[i])
			for j := range cells {
				if cell.Same(cells[i], cells[j]) != models[i].same(models[j]) {
					t.Fatal(seed, i, j, cells[i].Places(), cells[j].Places())
				}
			}
		}
	}
}

// Rule 4: nothing is kept from call to call but what the cells hold: two that are worked on alike are alike, whatever is done to a third.
func TestAlike(t *testing.T) {
	a, b, third := cell.New(), cell.New(), cell.New()
	for i, p := range mixed(places())[:500] {
		a.Add(p, uint64(i))
		third.Store(p, 7)
		third.Swap(p, 7, 8)
		b.Add(p, uint64(i))
	}
	if !cell.Same(a, b) || a.Count() != b.Count() || !slices.Equal(a.Places(), b.Places()) || cell.Same(a, third) {
		t.Error(a.Count(), b.Count())
	}
}

// Ways: the words are in a map whose keys are structs: a place.
func TestWays(t *testing.T) {
	of := reflect.TypeFor[cell.Cells]()
	kinds := map[reflect.Type]int{}
	for i := range of.NumField() {
		if f := of.Field(i); f.Type.Kind() == reflect.Map {
			kinds[f.Type.Key()]++
		}
	}
	if !maps.Equal(kinds, map[reflect.Type]int{reflect.TypeFor[api.Place](): 1}) {
		t.Error(kinds)
	}
}
