package soul_test

import (
	"math"
	"slices"
	"testing"

	"revenant/soul"
)

// ends are numbers about 0, about the ends of narrower types, and at the ends of int. Many are alike in their low bits.
var ends = []int{math.MinInt, math.MinInt + 1, -1 << 32, -1 << 31, -256, -3, -2, -1, 0, 1, 2, 3, 4, 5, 255, 256, 257, 1<<23 - 1, 1 << 23, 1<<31 - 1, 1 << 31, 1 << 32, 1<<32 + 1, 1 << 62, math.MaxInt - 1, math.MaxInt}

// few and many are slots in which some are born, in no order, and the ends of int among them.
var (
	few  = []int{5, 3, 5}
	many = []int{9, 1, math.MaxInt, 9, 9, 2, 1 << 32, 1<<32 + 1, 1, 8_388_607, 300, 44, 1, 1 << 62, 9, math.MaxInt, 2, 256, 3, math.MaxInt - 1}
)

// numbers are numbers that look like any, always the same.
type numbers uint64

// below is the next one, below n.
func (x *numbers) below(n int) int {
	*x = *x*6364136223846793005 + 1442695040888963407
	return int(*x>>33) % n
}

// model is what the document says of souls, as plainly as it can be: the slots in which some were born, birth by birth.
type model []int

func (m *model) born(slot int) int {
	if slot < 1 {
		return 0
	}
	*m = append(*m, slot)
	return len(*m)
}

func (m model) all(slot int) []int {
	var list []int
	for i, s := range m {
		if s == slot {
			list = append(list, i+1)
		}
	}
	return list
}

func (m model) now(slot int) int {
	id := 0
	for i, s := range m {
		if s == slot {
			id = i + 1
		}
	}
	return id
}

func (m model) slotOf(id int) int {
	for i, s := range m {
		if i+1 == id {
			return s
		}
	}
	return 0
}

func (m model) slots() []int {
	var list []int
	for _, s := range m {
		if !slices.Contains(list, s) {
			list = append(list, s)
		}
	}
	slices.Sort(list)
	return list
}

// check holds all that souls tell against the model, of the slots of the model, of all identities, and of the ends.
func check(t *testing.T, s *soul.Souls, m model) {
	t.Helper()
	if s.Count() != len(m) {
		t.Fatal("Count", s.Count(), len(m))
	}
	if got := s.Slots(); !slices.Equal(got, m.slots()) {
		t.Fatal("Slots", got, m.slots())
	}
	ids := slices.Clone(ends)
	for id := range len(m) + 3 {
		ids = append(ids, id-1)
	}
	for _, id := range ids {
		if got := s.SlotOf(id); got != m.slotOf(id) {
			t.Fatal("SlotOf", id, got, m.slotOf(id))
		}
	}
	for _, slot := range append(m.slots(), ends...) {
		if got := s.Now(slot); got != m.now(slot) {
			t.Fatal("Now", slot, got, m.now(slot))
		}
		if got := s.All(slot); !slices.Equal(got, m.all(slot)) {
			t.Fatal("All", slot, got, m.all(slot))
		}
		for _, id := range ids {
			if got, want := s.Is(soul.Who{Slot: slot, Id: id}), id != 0 && id == m.now(slot); got != want {
				t.Fatal("Is", slot, id, got)
			}
		}
	}
}

// bear bears in these slots, and holds what is told behind each birth against the model.
func bear(t *testing.T, slots []int) (*soul.Souls, model) {
	t.Helper()
	s, m := soul.New(), model{}
	for i, slot := range slots {
		if got, want := s.Born(slot), m.born(slot); got != want {
			t.Fatal("Born", i, slot, got, want)
		}
		check(t, s, m)
	}
	return s, m
}

// The example: born of 5, of 3, and of 5 again.
func TestExample(t *testing.T) {
	s := soul.New()
	for i, slot := range few {
		if id := s.Born(slot); id != i+1 {
			t.Error(i, slot, id)
		}
	}
	if s.Now(5) != 3 || s.Now(3) != 2 || s.Now(4) != 0 || s.Count() != 3 {
		t.Error(s.Now(5), s.Now(3), s.Now(4), s.Count())
	}
	if !slices.Equal(s.All(5), []int{1, 3}) || !slices.Equal(s.All(3), []int{2}) || !slices.Equal(s.Slots(), []int{3, 5}) {
		t.Error(s.All(5), s.All(3), s.Slots())
	}
	if s.SlotOf(1) != 5 || s.SlotOf(2) != 3 || s.SlotOf(3) != 5 || s.SlotOf(4) != 0 || s.SlotOf(0) != 0 {
		t.Error(s.SlotOf(1), s.SlotOf(2), s.SlotOf(3), s.SlotOf(4), s.SlotOf(0))
	}
	for who, want := range map[soul.Who]bool{{5, 3}: true, {3, 2}: true, {5, 1}: false, {5, 2}: false, {3, 3}: false, {3, 1}: false, {4, 0}: false, {4, 3}: false, {5, 0}: false, {5, 4}: false} {
		if s.Is(who) != want {
			t.Error(who, s.Is(who))
		}
	}
}

// P6.1: New has nobody; there is nothing to tell of anyone.
func TestNew(t *testing.T) {
	s := soul.New()
	if s == nil {
		t.Fatal("none")
	}
	check(t, s, nil)
	if len(s.Slots()) != 0 || s.Count() != 0 {
		t.Error(s.Slots(), s.Count())
	}
	if other := soul.New(); other == s {
		t.Error("two of New are one")
	}
}

// P6.1, P6.2: births in few slots and in many, with all that is told behind each.
func TestBorn(t *testing.T) {
	for _, slots := range [][]int{few, many, {1}, {1, 1, 1, 1}, {1, 2, 3, 4}, {4, 3, 2, 1}, {math.MaxInt, 1, math.MaxInt}, {1<<32 + 1, 1}, {257, 1, 513}} {
		bear(t, slots)
	}
}

// P6.1: of a slot below 1 a birth is 0, and nothing happens, wherever it stands among others.
func TestBornNot(t *testing.T) {
	for _, low := range []int{0, -1, -2, -5, -256, -1 << 31, -1 << 32, math.MinInt, math.MinInt + 1} {
		s := soul.New()
		if id := s.Born(low); id != 0 {
			t.Error(low, id)
		}
		check(t, s, nil)
		bear(t, []int{low, 5, low, 3, low, low, 5, low})
	}
	if id := soul.New().Born(1); id != 1 {
		t.Error(id)
	}
}

// P6.1: Now of a slot of 1, 0, below 0, and the ends of int.
func TestNow(t *testing.T) {
	s := soul.New()
	for _, slot := range []int{1, math.MaxInt} {
		if s.Now(slot) != 0 {
			t.Error(slot, s.Now(slot))
		}
	}
	s.Born(1)
	s.Born(math.MaxInt)
	s.Born(0)
	s.Born(math.MinInt)
	for slot, want := range map[int]int{1: 1, math.MaxInt: 2, 0: 0, -1: 0, math.MinInt: 0, 2: 0, math.MaxInt - 1: 0} {
		if got := s.Now(slot); got != want {
			t.Error(slot, got, want)
		}
	}
}

// P6.1: nobody is the identity 0, of a slot in which nobody was born neither.
func TestIsNobody(t *testing.T) {
	s, _ := bear(t, many)
	for i, u := range []*soul.Souls{soul.New(), s} {
		for _, slot := range append(slices.Clone(ends), many...) {
			if u.Is(soul.Who{Slot: slot}) {
				t.Error(i, slot)
			}
		}
	}
}

// P6.1: Is and SlotOf of identities of 0, below 0, of Count, one more, and the ends of int.
func TestIdEnds(t *testing.T) {
	s, _ := bear(t, []int{7, 4, 7, 4, 6})
	count := s.Count()
	for id, want := range map[int]int{math.MinInt: 0, math.MinInt + 1: 0, -count: 0, -1: 0, 0: 0, 1: 7, 2: 4, count - 1: 4, count: 6, count + 1: 0, count + 2: 0, 1<<32 + 1: 0, math.MaxInt - 1: 0, math.MaxInt: 0} {
		if got := s.SlotOf(id); got != want {
			t.Error("SlotOf", id, got, want)
		}
		for _, slot := range []int{4, 6, 7, 5, 0, -7} {
			is := slot == 7 && id == 3 || slot == 4 && id == 4 || slot == 6 && id == 5
			if got := s.Is(soul.Who{Slot: slot, Id: id}); got != is {
				t.Error("Is", slot, id, got)
			}
		}
	}
}

// P6.2: All and Slots rise, whatever the order of the births.
func TestRising(t *testing.T) {
	for seed := range 30 {
		x := numbers(seed)
		s := soul.New()
		for range 200 {
			s.Born(1 + x.below(1+seed*7)*(1+x.below(3)))
		}
		lists, born := [][]int{s.Slots()}, 0
		for _, slot := range s.Slots() {
			all := s.All(slot)
			lists, born = append(lists, all), born+len(all)
		}
		for i, list := range lists {
			if len(list) == 0 {
				t.Error(seed, i, "a slot without a birth")
			}
			for k := 1; k < len(list); k++ {
				if list[k-1] >= list[k] {
					t.Fatal(seed, i, list)
				}
			}
		}
		if born != s.Count() || born != 200 {
			t.Error(seed, born, s.Count())
		}
	}
}

// spoil changes a list that was answered, its spare room too.
func spoil(list []int) {
	for i := range list {
		list[i] = -9
	}
	room := list[:cap(list)]
	for i := range room {
		room[i] = -9
	}
}

// P6.2, rule 3: who asked for a list may change it: what is told later is as it was, and births behind it too; a list that was answered isn't changed by births.
func TestLists(t *testing.T) {
	for _, slots := range [][]int{few, many, {1}, {2, 2}, {2, 2, 2}, {2, 2, 2, 2, 2}} {
		s, m := bear(t, slots)
		for range 20 {
			for _, slot := range m.slots() {
				spoil(s.All(slot))
				spoil(s.Slots())
				check(t, s, m)
			}
			all, inSlots := s.All(slots[0]), s.Slots()
			wasAll, wasSlots := slices.Clone(all), slices.Clone(inSlots)
			for _, slot := range []int{slots[0], 1000 + len(m)} {
				if got, want := s.Born(slot), m.born(slot); got != want {
					t.Fatal(slot, got, want)
				}
			}
			if !slices.Equal(all, wasAll) || !slices.Equal(inSlots, wasSlots) {
				t.Fatal(all, wasAll, inSlots, wasSlots)
			}
			check(t, s, m)
		}
	}
}

// Rule 3: no two lists that were answered share memory, their spare room neither.
func TestListsApart(t *testing.T) {
	s, m := bear(t, many)
	for _, slot := range m.slots() {
		a, b := s.All(slot), s.All(slot)
		spoil(a)
		if !slices.Equal(b, m.all(slot)) {
			t.Error(slot, b)
		}
		b = append(b, 77)
		if c := append(s.All(slot), 78); c[len(c)-1] != 78 || b[len(b)-1] != 77 {
			t.Error(slot, b, c)
		}
	}
	a, b := s.Slots(), s.Slots()
	spoil(a)
	if !slices.Equal(b, m.slots()) {
		t.Error(b)
	}
}

// P6.2: lists of nobody are nothing, of slots that can't be too.
func TestNothing(t *testing.T) {
	s, _ := bear(t, few)
	for _, slot := range []int{math.MinInt, -5, -1, 0, 1, 2, 4, 6, 1<<32 + 5, math.MaxInt} {
		if len(s.All(slot)) != 0 {
			t.Error(slot, s.All(slot))
		}
	}
}

// P6.3: who isn't any more never is again, wherever else some are born.
func TestNeverAgain(t *testing.T) {
	s := soul.New()
	x := numbers(3)
	gone := map[soul.Who]bool{}
	for range 400 {
		slot := 1 + x.below(12)
		was := soul.Who{Slot: slot, Id: s.Now(slot)}
		if was.Id != 0 {
			if !s.Is(was) {
				t.Fatal(was)
			}
			gone[was] = true
		}
		id := s.Born(slot)
		if !s.Is(soul.Who{Slot: slot, Id: id}) || gone[soul.Who{Slot: slot, Id: id}] {
			t.Fatal(slot, id)
		}
		for w := range gone {
			if s.Is(w) {
				t.Fatal(w, "is again")
			}
		}
	}
}

// P6.3: no two slots are the same one, and none is one of which another one ever was.
func TestNoTwo(t *testing.T) {
	s := soul.New()
	x := numbers(4)
	for range 200 {
		s.Born(1 + x.below(9))
		ever, now := map[int]int{}, map[int]int{}
		for _, slot := range s.Slots() {
			now[s.Now(slot)]++
			for _, id := range s.All(slot) {
				ever[id]++
				if s.SlotOf(id) != slot {
					t.Fatal(slot, id, s.SlotOf(id))
				}
			}
		}
		if len(now) != len(s.Slots()) || len(ever) != s.Count() {
			t.Fatal(now, ever)
		}
		for id := 1; id <= s.Count(); id++ {
			is := 0
			for _, slot := range s.Slots() {
				if s.Is(soul.Who{Slot: slot, Id: id}) {
					is++
				}
			}
			if is != now[id] || ever[id] != 1 {
				t.Fatal(id, is, now[id], ever[id])
			}
		}
	}
}

// P6.1: of nil 0, false, nothing, in each call, at all arguments.
func TestNil(t *testing.T) {
	var s *soul.Souls
	for range 2 {
		for _, n := range ends {
			if s.Born(n) != 0 || s.Now(n) != 0 || s.SlotOf(n) != 0 || len(s.All(n)) != 0 {
				t.Error(n, s.Born(n), s.Now(n), s.SlotOf(n), s.All(n))
			}
			for _, id := range ends {
				if s.Is(soul.Who{Slot: n, Id: id}) {
					t.Error(n, id)
				}
			}
		}
		if s.Count() != 0 || len(s.Slots()) != 0 {
			t.Error(s.Count(), s.Slots())
		}
	}
}

// P1: no call panics, of souls that no call made either.
func TestZero(t *testing.T) {
	for _, n := range ends {
		for _, do := range []func(s *soul.Souls){
			func(s *soul.Souls) { s.Born(n) },
			func(s *soul.Souls) { s.Now(n); s.Is(soul.Who{Slot: n, Id: n}); s.SlotOf(n) },
			func(s *soul.Souls) { s.All(n); s.Count(); s.Slots() },
		} {
			do(&soul.Souls{})
		}
	}
}

// Rule 4: births of one hang on it alone, whatever is done to another.
func TestAlike(t *testing.T) {
	a, b, third := soul.New(), soul.New(), soul.New()
	for i, slot := range many {
		third.Born(slot)
		third.Born(slot + i%2)
		if x, y := a.Born(slot), b.Born(slot); x != y || x != i+1 {
			t.Fatal(i, x, y)
		}
		third.Born(7)
	}
	check(t, a, many)
	check(t, b, many)
}

// P6.1 to P6.3: many births, in many slots and in few, in slots that can't be between, held against the document's own words.
func TestMany(t *testing.T) {
	for seed := range 20 {
		x := numbers(seed + 50)
		s, m := soul.New(), model{}
		for range 120 {
			slot := 1 + x.below(1+seed*seed)
			if x.below(6) == 0 {
				slot = ends[x.below(len(ends))]
			}
			if slot == math.MaxInt && x.below(2) == 0 {
				slot = -slot
			}
			if got, want := s.Born(slot), m.born(slot); got != want {
				t.Fatal(seed, slot, got, want)
			}
			if x.below(12) == 0 {
				check(t, s, m)
			}
		}
		check(t, s, m)
	}
}

// P6.1, P6.2: as many births as a long run has, in one slot and in many: what is told of each is as long as it has to be.
func TestLong(t *testing.T) {
	const births = 100_000
	s := soul.New()
	for i := range births {
		slot := 1
		if i%2 == 1 {
			slot = i
		}
		if id := s.Born(slot); id != i+1 {
			t.Fatal(i, id)
		}
	}
	// The slot 1 is born at each even step, and at the step 1 too.
	if s.Count() != births || len(s.All(1)) != births/2+1 || len(s.Slots()) != births/2 || s.Now(1) != births-1 || s.Now(99_999) != births || s.SlotOf(births) != 99_999 || s.SlotOf(births+1) != 0 {
		t.Error(s.Count(), len(s.All(1)), len(s.Slots()), s.Now(1), s.Now(99_999), s.SlotOf(births))
	}
}
