package place_test

import (
	"math"
	"math/big"
	"strconv"
	"testing"

	"revenant/api"
	"revenant/place"
)

// The limits, as the document says them.
const (
	maxSlots   = 1<<23 - 1
	maxEpoch   = 1<<40 - 1
	maxBuckets = 64
	maxHeight  = 16
)

// at is a place.
func at(kind, slot, part int) api.Place { return api.Place{Kind: kind, Slot: slot, Part: part} }

// list, hash and skip are structures.
func list(slots int) api.Config {
	return api.Config{Kind: 1, Slots: slots, Height: 1, Limit: 9}
}

func hash(slots, buckets int) api.Config {
	return api.Config{Kind: 2, Slots: slots, Buckets: buckets, Height: 1, Limit: 9}
}

func skip(slots, height int) api.Config {
	return api.Config{Kind: 3, Slots: slots, Height: height, Limit: 9}
}

// small are structures of each kind, whose places are few.
func small() []api.Config {
	out := []api.Config{}
	for _, slots := range []int{1, 2, 3, 8} {
		out = append(out, list(slots))
		for _, b := range []int{1, 2, 3, 7, 8, 9, maxBuckets - 1, maxBuckets} {
			out = append(out, hash(slots, b))
		}
		for h := 1; h <= maxHeight; h++ {
			out = append(out, skip(slots, h))
		}
	}
	return out
}

// great are structures of each kind at the limits.
func great() []api.Config {
	out := []api.Config{}
	for _, slots := range []int{maxSlots - 1, maxSlots} {
		out = append(out, list(slots), hash(slots, 1), hash(slots, maxBuckets), skip(slots, 1), skip(slots, 2), skip(slots, maxHeight))
	}
	for i := range out {
		out[i].Limit = maxEpoch
	}
	return out
}

// none are structures that can't be, of one fault each, of several, and of all.
func none() []api.Config {
	out := []api.Config{{}, {Kind: 1}, {Kind: 2}, {Kind: 3}}
	for _, n := range []int{math.MinInt, -1, math.MaxInt} {
		out = append(out, api.Config{Kind: n, Slots: n, Buckets: n, Height: n, Limit: n})
	}
	for _, c := range []api.Config{list(8), hash(8, 4), skip(8, 4)} {
		for _, n := range []int{math.MinInt, -1, 0, 4, 1<<32 + 1, math.MaxInt} {
			d := c
			d.Kind = n
			out = append(out, d)
		}
		for _, n := range []int{math.MinInt, -1, 0, maxSlots + 1, 1<<32 + 1, math.MaxInt} {
			d := c
			d.Slots = n
			out = append(out, d)
		}
		for _, n := range []int{math.MinInt, -1, maxBuckets + 1, 1<<32 + 1, math.MaxInt} {
			d := c
			d.Buckets = n
			out = append(out, d)
		}
		for _, n := range []int{math.MinInt, -1, 0, maxHeight + 1, 1<<32 + 1, math.MaxInt} {
			d := c
			d.Height = n
			out = append(out, d)
		}
		for _, n := range []int{math.MinInt, -1, 0, 1, maxEpoch + 1, math.MaxInt} {
			d := c
			d.Limit = n
			out = append(out, d)
		}
	}
	return append(out,
		api.Config{Kind: 1, Slots: 8, Buckets: 1, Height: 1, Limit: 9}, api.Config{Kind: 1, Slots: 8, Height: 2, Limit: 9},
		api.Config{Kind: 2, Slots: 8, Height: 1, Limit: 9}, api.Config{Kind: 2, Slots: 8, Buckets: 1, Height: 2, Limit: 9},
		api.Config{Kind: 3, Slots: 8, Buckets: 1, Height: 1, Limit: 9})
}

// rootsOf and cellsOf are layer 3's, as its chapter says them.
func rootsOf(c api.Config) int { return [...]int{0, 1, c.Buckets, c.Height}[c.Kind] }

func cellsOf(c api.Config) int { return 7 + c.Height }

// row are all places of a structure, in the order of their numbers.
func row(c api.Config) []api.Place {
	out := []api.Place{at(1, 0, 0), at(2, 0, 0), at(3, 0, 0)}
	for i := range rootsOf(c) {
		out = append(out, at(4, 0, i))
	}
	for slot := 1; slot <= c.Slots; slot++ {
		for part := range cellsOf(c) {
			out = append(out, at(5, slot, part))
		}
	}
	return out
}

// ends are numbers at the ends of int, and such as look right in their low bits.
var ends = []int{math.MinInt, math.MinInt + 1, math.MinInt + 7, -1 << 32, -1<<32 + 1, -256, 256, 257, 1<<32 + 1, 1 << 62, math.MaxInt - 7, math.MaxInt - 1, math.MaxInt}

// about are the numbers from low to high, and the ends.
func about(low, high int) []int {
	out := []int{}
	for n := low; n <= high; n++ {
		out = append(out, n)
	}
	return append(out, ends...)
}

// cube are places in and about a structure.
func cube(c api.Config) []api.Place {
	out := []api.Place{}
	for _, kind := range about(-2, 8) {
		for _, slot := range about(-2, c.Slots+2) {
			for _, part := range about(-2, max(rootsOf(c), cellsOf(c))+2) {
				out = append(out, at(kind, slot, part))
			}
		}
	}
	return out
}

// numberOf is a place's number of a structure that can be, in numbers that don't go round; -1, if it has none.
func numberOf(c api.Config, p api.Place) *big.Int {
	in := func(n, low, high int) bool { return low <= n && n <= high }
	roots, cells := rootsOf(c), cellsOf(c)
	switch p.Kind {
	case 1, 2, 3:
		if p.Slot == 0 && p.Part == 0 {
			return big.NewInt(int64(p.Kind - 1))
		}
	case 4:
		if p.Slot == 0 && in(p.Part, 0, roots-1) {
			return big.NewInt(int64(3 + p.Part))
		}
	case 5:
		if in(p.Slot, 1, c.Slots) && in(p.Part, 0, cells-1) {
			n := new(big.Int).Mul(big.NewInt(int64(p.Slot-1)), big.NewInt(int64(cells)))
			return n.Add(n, big.NewInt(int64(3+roots+p.Part)))
		}
	}
	return big.NewInt(-1)
}

// countOf is how many places a structure that can be has, likewise.
func countOf(c api.Config) *big.Int {
	n := new(big.Int).Mul(big.NewInt(int64(c.Slots)), big.NewInt(int64(cellsOf(c))))
	return n.Add(n, big.NewInt(int64(3+rootsOf(c))))
}

// The parts' numbers are the chapter's.
func TestParts(t *testing.T) {
	for i, n := range []int{place.Birth, place.Retire, place.Chain, place.Key, place.Val, place.Top, place.State, place.Next} {
		if n != i {
			t.Error(i, n)
		}
	}
}

// P5.1: the places that each structure has once.
func TestSingle(t *testing.T) {
	for i := range 2 {
		if p := place.Epoch(); p != at(1, 0, 0) {
			t.Error(i, p)
		}
		if p := place.Pool(); p != at(2, 0, 0) {
			t.Error(i, p)
		}
		if p := place.Fresh(); p != at(3, 0, 0) {
			t.Error(i, p)
		}
	}
}

// P5.1: Root, Of and Link, of numbers that can be and of any others.
func TestMade(t *testing.T) {
	nums := about(-20, 80)
	nums = append(nums, maxSlots, maxSlots+1)
	for _, a := range nums {
		if p := place.Root(a); p != at(4, 0, a) {
			t.Error(a, p)
		}
		for _, b := range nums {
			if p := place.Of(a, b); p != at(5, a, b) {
				t.Error(a, b, p)
			}
			sum := new(big.Int).Add(big.NewInt(int64(b)), big.NewInt(7))
			if sum.Cmp(big.NewInt(math.MaxInt)) > 0 {
				sum.Sub(sum, new(big.Int).Lsh(big.NewInt(1), 64))
			}
			if p := place.Link(a, b); p != at(5, a, int(sum.Int64())) {
				t.Error(a, b, p)
			}
		}
	}
}

// P5.1: Link, where Next and the level go round and where they just don't.
func TestLinkRound(t *testing.T) {
	for i, c := range []struct{ level, part int }{
		{0, 7},
		{15, 22},
		{16, 23},
		{-1, 6},
		{-7, 0},
		{-8, -1},
		{math.MaxInt - 7, math.MaxInt},
		{math.MaxInt - 6, math.MinInt},
		{math.MaxInt - 5, math.MinInt + 1},
		{math.MaxInt, math.MinInt + 6},
		{math.MinInt, math.MinInt + 7},
	} {
		for _, slot := range []int{math.MinInt, -1, 0, 1, maxSlots, math.MaxInt} {
			if p := place.Link(slot, c.level); p != at(5, slot, c.part) {
				t.Error(i, slot, p)
			}
		}
	}
}

// P5.1: Is, of every place in and about small structures of each kind.
func TestIs(t *testing.T) {
	for _, c := range small() {
		there := map[api.Place]bool{}
		for _, p := range row(c) {
			there[p] = true
			if !place.Is(c, p) {
				t.Error(c, p)
			}
		}
		for _, p := range cube(c) {
			if place.Is(c, p) != there[p] {
				t.Fatal(c, p, there[p])
			}
		}
	}
}

// P5.1, P5.2: each edge that the words name, of each kind, small and at the limits.
func TestIsEdges(t *testing.T) {
	for _, c := range append(small(), great()...) {
		roots, cells := rootsOf(c), cellsOf(c)
		for i, x := range []struct {
			p  api.Place
			is bool
		}{
			{at(0, 0, 0), false},
			{at(1, 0, 0), true},
			{at(1, 1, 0), false},
			{at(1, 0, 1), false},
			{at(1, -1, 0), false},
			{at(1, 0, -1), false},
			{at(1, 1, 1), false},
			{at(1, 1, -1), false},
			{at(2, 0, 0), true},
			{at(2, 1, 0), false},
			{at(2, 0, 1), false},
			{at(2, -1, 0), false},
			{at(2, 0, -1), false},
			{at(3, 0, 0), true},
			{at(3, 1, 0), false},
			{at(3, 0, 1), false},
			{at(3, -1, 0), false},
			{at(3, 0, -1), false},
			{at(4, 0, -1), false},
			{at(4, 0, 0), true},
			{at(4, 0, roots-1), true},
			{at(4, 0, roots), false},
			{at(4, 1, 0), false},
			{at(4, -1, 0), false},
			{at(5, 0, 0), false},
			{at(5, -1, 0), false},
			{at(5, 1, -1), false},
			{at(5, 1, 0), true},
			{at(5, 1, cells-1), true},
			{at(5, 1, cells), false},
			{at(5, c.Slots, -1), false},
			{at(5, c.Slots, 0), true},
			{at(5, c.Slots, cells-1), true},
			{at(5, c.Slots, cells), false},
			{at(5, c.Slots+1, 0), false},
			{at(5, c.Slots+1, cells-1), false},
			{at(6, 0, 0), false},
			{at(6, 1, 0), false},
			{at(-1, 0, 0), false},
		} {
			if place.Is(c, x.p) != x.is {
				t.Error(i, c, x.p)
			}
			if n, is := place.Number(c, x.p); is != x.is || !is && n != 0 {
				t.Error(i, c, x.p, n, is)
			}
		}
	}
}

// P5.1: which parts are content: all but Retire and Chain, from 0 on, of any slot.
func TestIsContent(t *testing.T) {
	for i, c := range []struct {
		part int
		is   bool
	}{
		{math.MinInt, false},
		{-1, false},
		{0, true},
		{1, false},
		{2, false},
		{3, true},
		{4, true},
		{5, true},
		{6, true},
		{7, true},
		{8, true},
		{22, true},
		{23, true},
		{1 << 32, true},
		{1<<32 + 1, true},
		{1<<32 + 2, true},
		{math.MinInt + 1, false},
		{math.MinInt + 3, false},
		{math.MaxInt, true},
	} {
		for _, slot := range append(about(-2, 9), maxSlots, maxSlots+1) {
			if place.IsContent(at(5, slot, c.part)) != c.is {
				t.Error(i, slot, c.part)
			}
			for _, kind := range about(-2, 8) {
				if kind != 5 && place.IsContent(at(kind, slot, c.part)) {
					t.Error(i, kind, slot, c.part)
				}
			}
		}
	}
	for _, p := range []api.Place{{}, place.Epoch(), place.Pool(), place.Fresh(), place.Root(0), place.Root(3), place.Of(1, place.Retire), place.Of(1, place.Chain)} {
		if place.IsContent(p) {
			t.Error(p)
		}
	}
	for _, p := range []api.Place{place.Of(1, place.Birth), place.Of(1, place.Key), place.Of(1, place.Val), place.Of(1, place.Top), place.Of(1, place.State), place.Link(1, 0), place.Link(1, 15)} {
		if !place.IsContent(p) {
			t.Error(p)
		}
	}
}

// P5.2, P5.4: every place of small structures of each kind has its number, and the number leads back.
func TestRow(t *testing.T) {
	for _, c := range small() {
		all := row(c)
		if n := place.Count(c); n != len(all) {
			t.Error(c, n, len(all))
		}
		for i, p := range all {
			if n, is := place.Number(c, p); n != i || !is {
				t.Fatal(c, p, n, is, i)
			}
			if q, is := place.At(c, i); q != p || !is {
				t.Fatal(c, i, q, is, p)
			}
		}
	}
}

// P5.2: Number of every place in and about small structures.
func TestNumber(t *testing.T) {
	for _, c := range small() {
		for _, p := range cube(c) {
			want := numberOf(c, p).Int64()
			there := want >= 0
			if n, is := place.Number(c, p); is != there || n != max(int(want), 0) {
				t.Fatal(c, p, n, is, want)
			}
		}
	}
}

// P5.2: At, of the ends of the row and beyond them.
func TestAtEnds(t *testing.T) {
	for _, c := range append(small(), great()...) {
		count := int(countOf(c).Int64())
		if n := place.Count(c); n != count {
			t.Error(c, n, count)
		}
		for i, x := range []struct {
			n int
			p api.Place
		}{
			{0, at(1, 0, 0)},
			{1, at(2, 0, 0)},
			{2, at(3, 0, 0)},
			{3, at(4, 0, 0)},
			{2 + rootsOf(c), at(4, 0, rootsOf(c)-1)},
			{3 + rootsOf(c), at(5, 1, 0)},
			{2 + rootsOf(c) + cellsOf(c), at(5, 1, cellsOf(c)-1)},
			{count - cellsOf(c), at(5, c.Slots, 0)},
			{count - 1, at(5, c.Slots, cellsOf(c)-1)},
		} {
			if p, is := place.At(c, x.n); p != x.p || !is {
				t.Error(i, c, x.n, p, is)
			}
			if n, is := place.Number(c, x.p); n != x.n || !is {
				t.Error(i, c, x.p, n, is)
			}
		}
		for _, n := range []int{math.MinInt, math.MinInt + 1, -1 << 32, -3, -2, -1, count, count + 1, count + 2, 1<<32 + 1, 1 << 62, math.MaxInt - 1, math.MaxInt} {
			if p, is := place.At(c, n); p != at(0, 0, 0) || is {
				t.Error(c, n, p, is)
			}
		}
	}
}

// P5.2: numbers of some places at the limits, by numbers that don't go round, and back.
func TestGreat(t *testing.T) {
	for _, c := range great() {
		for slot := 1; slot <= c.Slots; slot += 9973 {
			for part := range cellsOf(c) {
				p := at(5, slot, part)
				n, is := place.Number(c, p)
				if !is || big.NewInt(int64(n)).Cmp(numberOf(c, p)) != 0 {
					t.Fatal(c, p, n, is)
				}
				if q, is := place.At(c, n); q != p || !is {
					t.Fatal(c, n, q, is)
				}
			}
		}
	}
	for i, x := range []struct {
		c api.Config
		n int
	}{
		{list(1), 12},
		{hash(1, 1), 12},
		{hash(8, 64), 131},
		{skip(1, 1), 12},
		{skip(2, 3), 26},
		{list(maxSlots), 67108860},
		{hash(maxSlots, maxBuckets), 67108923},
		{skip(maxSlots, maxHeight), 192937980},
	} {
		if n := place.Count(x.c); n != x.n {
			t.Error(i, x.c, n)
		}
	}
}

// P5.1, P5.2: nothing of what can't be.
func TestNone(t *testing.T) {
	for _, c := range none() {
		if n := place.Count(c); n != 0 {
			t.Error(c, n)
		}
		for _, kind := range about(-1, 6) {
			for _, slot := range about(-1, 9) {
				for _, part := range []int{math.MinInt, -1, 0, 1, 6, 7, 8, 10, math.MaxInt} {
					p := at(kind, slot, part)
					if place.Is(c, p) {
						t.Error(c, p)
					}
					if n, is := place.Number(c, p); n != 0 || is {
						t.Error(c, p, n, is)
					}
				}
			}
		}
		for _, n := range about(-5, 30) {
			if p, is := place.At(c, n); p != at(0, 0, 0) || is {
				t.Error(c, n, p, is)
			}
		}
	}
}

// P5.2: the last epoch plays no part in how many places there are.
func TestLimit(t *testing.T) {
	for _, c := range small() {
		for _, limit := range []int{2, 3, maxEpoch} {
			d := c
			d.Limit = limit
			last := at(5, c.Slots, cellsOf(c)-1)
			if place.Count(d) != len(row(c)) || !place.Is(d, last) {
				t.Error(d)
			}
		}
	}
}

// P5.3: names of all that could be a place, of however many roots, slots and levels.
func TestName(t *testing.T) {
	for i, c := range []struct {
		p    api.Place
		name string
	}{
		{place.Epoch(), "epoch"},
		{place.Pool(), "pool"},
		{place.Fresh(), "fresh"},
		{place.Root(0), "root 0"},
		{place.Root(9), "root 9"},
		{place.Root(10), "root 10"},
		{place.Root(63), "root 63"},
		{place.Root(64), "root 64"},
		{place.Root(math.MaxInt), "root 9223372036854775807"},
		{place.Of(1, place.Birth), "slot 1 birth"},
		{place.Of(1, place.Retire), "slot 1 retire"},
		{place.Of(1, place.Chain), "slot 1 chain"},
		{place.Of(1, place.Key), "slot 1 key"},
		{place.Of(1, place.Val), "slot 1 val"},
		{place.Of(1, place.Top), "slot 1 top"},
		{place.Of(1, place.State), "slot 1 state"},
		{place.Of(1, place.Next), "slot 1 next 0"},
		{place.Link(2, 0), "slot 2 next 0"},
		{place.Link(2, 1), "slot 2 next 1"},
		{place.Link(12, 15), "slot 12 next 15"},
		{place.Link(12, 16), "slot 12 next 16"},
		{place.Link(8388607, 100), "slot 8388607 next 100"},
		{place.Of(8388608, 3), "slot 8388608 key"},
		{place.Of(math.MaxInt, 0), "slot 9223372036854775807 birth"},
		{place.Of(math.MaxInt, math.MaxInt), "slot 9223372036854775807 next 9223372036854775800"},
		{place.Link(3, math.MaxInt-7), "slot 3 next 9223372036854775800"},
		{place.Link(3, -1), "slot 3 state"},
		{place.Link(3, -7), "slot 3 birth"},
	} {
		if name := place.Name(c.p); name != c.name {
			t.Errorf("%d: %v: %q", i, c.p, name)
		}
	}
}

// P5.3: what can't be a place is named none, by each part of the sentence that tells of it.
func TestNameNone(t *testing.T) {
	for _, c := range []struct {
		why    string
		places []api.Place
	}{
		{"a Kind that there isn't", []api.Place{
			{}, at(0, 0, 1), at(0, 1, 0), at(0, 1, 1), at(6, 0, 0), at(6, 1, 0), at(6, 1, 7), at(-1, 0, 0), at(-1, 1, 0), at(-5, 1, 0),
			at(1<<32+1, 0, 0), at(1<<32+4, 0, 0), at(1<<32+5, 1, 0), at(257, 0, 0), at(261, 1, 0),
			at(math.MinInt, 0, 0), at(math.MinInt+1, 0, 0), at(math.MinInt+5, 1, 0), at(math.MaxInt, 0, 0), at(math.MaxInt, 1, 1),
		}},
		{"a Slot that isn't 0 of a root", []api.Place{at(4, 1, 0), at(4, 1, 3), at(4, -1, 0), at(4, 1<<32, 0), at(4, math.MaxInt, 2), at(4, math.MinInt, 2)}},
		{"a Part below 0 of a root", []api.Place{place.Root(-1), place.Root(-2), place.Root(-1 << 32), place.Root(math.MinInt), at(4, 1, -1)}},
		{"a Slot below 1 of a cell", []api.Place{
			place.Of(0, 0), place.Of(0, 1), place.Of(0, 3), place.Of(0, math.MaxInt), place.Link(0, 0), place.Link(0, 15),
			place.Of(-1, 0), place.Of(-1, 3), place.Link(-1, 0), place.Of(-1<<32+1, 0), place.Of(math.MinInt, 0), place.Of(math.MinInt+1, 0),
		}},
		{"a Part below 0 of a cell", []api.Place{
			place.Of(1, -1), place.Of(1, -7), place.Of(2, -1<<32), place.Of(1, math.MinInt), place.Of(maxSlots, -1), place.Of(math.MaxInt, -1),
			place.Link(3, -8), place.Link(3, math.MinInt), place.Of(0, -1), place.Of(math.MinInt, math.MinInt),
		}},
		{"a level whose sum with Next goes round", []api.Place{
			place.Link(1, math.MaxInt-6), place.Link(1, math.MaxInt-5), place.Link(3, math.MaxInt-1), place.Link(3, math.MaxInt),
		}},
	} {
		for _, p := range c.places {
			if name := place.Name(p); name != "none" {
				t.Errorf("%s: %v: %q", c.why, p, name)
			}
		}
	}
}

// P5.3: a Slot or a Part that isn't 0, of those that each structure has once.
func TestNameSingleNone(t *testing.T) {
	for _, p := range []api.Place{place.Epoch(), place.Pool(), place.Fresh()} {
		for _, n := range append(about(-3, -1), about(1, 9)...) {
			for _, q := range []api.Place{at(p.Kind, n, 0), at(p.Kind, 0, n), at(p.Kind, n, n), at(p.Kind, n, -n)} {
				if name := place.Name(q); name != "none" {
					t.Errorf("%v: %q", q, name)
				}
			}
		}
	}
}

// nameOf is a place's name, as the chapter says it.
func nameOf(p api.Place) string {
	whole, part := strconv.Itoa(p.Slot), strconv.Itoa(p.Part)
	names := []string{"birth", "retire", "chain", "key", "val", "top", "state"}
	switch {
	case p.Kind >= 1 && p.Kind <= 3 && p.Slot == 0 && p.Part == 0:
		return []string{"epoch", "pool", "fresh"}[p.Kind-1]
	case p.Kind == 4 && p.Slot == 0 && p.Part >= 0:
		return "root " + part
	case p.Kind == 5 && p.Slot >= 1 && p.Part >= 7:
		return "slot " + whole + " next " + strconv.Itoa(p.Part-7)
	case p.Kind == 5 && p.Slot >= 1 && p.Part >= 0:
		return "slot " + whole + " " + names[p.Part]
	}
	return "none"
}

// P5.3, P5.4: names of every place in and about a structure; unlike ones are unlike, and none that can be is named none.
func TestNames(t *testing.T) {
	whose := map[string]api.Place{}
	for _, c := range []api.Config{list(3), hash(2, maxBuckets), skip(130, maxHeight)} {
		for _, p := range cube(c) {
			name := place.Name(p)
			if name != nameOf(p) {
				t.Fatalf("%v: %q", p, name)
			}
			if name == "none" {
				continue
			}
			if q, is := whose[name]; is && p != q {
				t.Errorf("%v, %v: %q", p, q, name)
			}
			whose[name] = p
		}
		for n := range place.Count(c) {
			p, _ := place.At(c, n)
			if name := place.Name(p); name == "none" || name == "" {
				t.Errorf("%v, %d: %v: %q", c, n, p, name)
			}
		}
	}
	if len(whose) < 3+64+130*23 {
		t.Error(len(whose))
	}
}

// P5.4: each number below Count is one place's, and each place's number is one below Count.
func TestOneToOne(t *testing.T) {
	for _, c := range append(small(), hash(1000, 64), skip(1000, 16), list(4096)) {
		seen, count := map[api.Place]bool{}, place.Count(c)
		for n := range count {
			p, is := place.At(c, n)
			if !is || seen[p] || !place.Is(c, p) {
				t.Fatal(c, n, p, is)
			}
			seen[p] = true
			if m, is := place.Number(c, p); m != n || !is {
				t.Fatal(c, n, p, m, is)
			}
		}
		if count == 0 || len(seen) != count {
			t.Error(c, count, len(seen))
		}
	}
}

// The chapter's example.
func TestExample(t *testing.T) {
	for _, slots := range []int{2, 3, 8, maxSlots} {
		c := skip(slots, 3)
		if n, is := place.Number(c, place.Link(2, 1)); n != 24 || !is {
			t.Error(slots, n, is)
		}
		if p, is := place.At(c, 24); p != place.Link(2, 1) || !is {
			t.Error(slots, p, is)
		}
	}
	if n, is := place.Number(skip(1, 3), place.Link(2, 1)); n != 0 || is {
		t.Error(n, is)
	}
}
