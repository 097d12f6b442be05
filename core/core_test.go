package core_test

import (
	"maps"
	"math"
	"slices"
	"testing"

	"revenant/api"
	"revenant/cell"
	"revenant/core"
	"revenant/ghost"
	"revenant/ideal"
	"revenant/place"
	"revenant/queue"
	"revenant/shade"
	"revenant/soul"
	"revenant/world"
)

// The limits, as the document says them.
const (
	maxSlots = 1<<23 - 1
	maxEpoch = 1<<40 - 1
)

// words are words of the epoch's cell, the ends of what an epoch and an int can be among them; many are alike in their low bits.
var words = []uint64{
	0, 1, 2, 3, 4, 255, 256, 1<<31 - 1, 1 << 31, 1<<32 - 1, 1 << 32, 1<<32 + 3, maxEpoch - 1, maxEpoch, maxEpoch + 1, 1<<40 + 3,
	1<<63 - 2, 1<<63 - 1, 1 << 63, 1<<63 + 1, 1<<63 + 3, 1<<63 + maxEpoch, math.MaxUint64 - 1, math.MaxUint64,
}

// links are words of links: without a mark and with one, to no slot, to some and to the last one, of many versions.
var links = []uint64{
	0, 1, 5, maxEpoch, 1 << 40, 1<<40 | 2, 7<<40 | 3, 1 << 62, maxSlots << 40, maxSlots<<40 | maxEpoch, 1<<63 - 1,
	1 << 63, 1<<63 | 1, 1<<63 | maxEpoch, 1<<63 | 1<<40, 1<<63 | 1<<40 | 2, 1<<63 | 7<<40 | 3, 1<<63 | maxSlots<<40, math.MaxUint64 - 1, math.MaxUint64,
}

// ids are numbers as an Id, below 0 and the ends of int among them.
var ids = []int{0, 1, 2, 3, 7, 256, 257, -1, -2, 1 << 31, 1 << 32, 1<<32 + 1, math.MaxInt, math.MinInt}

// slots are numbers as a slot, those that no link can lead to too.
var slots = []int{0, 1, 2, 3, 7, 8, 9, 255, 256, maxSlots - 1, maxSlots, maxSlots + 1, 1 << 24, 1 << 32, 1<<32 + 1, math.MaxInt, -1, -2, -maxSlots, math.MinInt, math.MinInt + 1}

// structures are some that can be, of each kind, the least and the greatest.
var structures = []api.Config{
	list(1), list(2), list(8), list(maxSlots - 1), list(maxSlots),
	{Kind: api.List, Slots: 8, Height: 1, Limit: 2}, {Kind: api.List, Slots: 1, Height: 1, Limit: maxEpoch},
	{Kind: api.Hash, Slots: 1, Buckets: 1, Height: 1, Limit: 2}, {Kind: api.Hash, Slots: 8, Buckets: 3, Height: 1, Limit: 7}, {Kind: api.Hash, Slots: maxSlots, Buckets: 64, Height: 1, Limit: maxEpoch},
	{Kind: api.Skip, Slots: 1, Height: 1, Limit: 2}, {Kind: api.Skip, Slots: 8, Height: 5, Limit: 7}, {Kind: api.Skip, Slots: maxSlots, Height: 16, Limit: maxEpoch},
}

// list is a list of that many slots.
func list(slots int) api.Config {
	return api.Config{Kind: api.List, Slots: slots, Height: 1, Limit: 9}
}

// none are structures that can't be, most of them by one number alone.
func none() []api.Config {
	all := []api.Config{{}, {Kind: api.List}, {Slots: 8, Height: 1, Limit: 9}, {Kind: api.List, Slots: 8, Limit: 9}}
	for _, n := range []int{math.MinInt, -1 << 32, -1, 1 << 62, math.MaxInt} {
		all = append(all, list(n), api.Config{Kind: n, Slots: 8, Height: 1, Limit: 9}, api.Config{Kind: api.List, Slots: 8, Buckets: n, Height: 1, Limit: 9})
		all = append(all, api.Config{Kind: api.Skip, Slots: 8, Height: n, Limit: 9}, api.Config{Kind: api.Hash, Slots: 8, Buckets: n, Height: 1, Limit: 9}, api.Config{Kind: api.Hash, Slots: 8, Buckets: 8, Height: 1, Limit: n})
	}
	for _, c := range structures {
		for _, slots := range []int{0, maxSlots + 1, 1<<32 + 8} {
			d := c
			d.Slots = slots
			all = append(all, d)
		}
		for _, limit := range []int{0, 1, maxEpoch + 1, 1<<62 + 9} {
			d := c
			d.Limit = limit
			all = append(all, d)
		}
		for _, kind := range []int{0, 4, 8, 256 + c.Kind, 1<<32 + c.Kind} {
			d := c
			d.Kind = kind
			all = append(all, d)
		}
		for _, by := range []int{64, 1 << 32} {
			d, e := c, c
			d.Buckets += by
			e.Height += by
			all = append(all, d, e)
		}
	}
	return all
}

// numbers are numbers that look like any, always the same.
type numbers uint64

// below is the next one, below n.
func (x *numbers) below(n int) int {
	*x = *x*6364136223846793005 + 1442695040888963407
	return int(*x>>33) % n
}

// one is one of a list.
func one[T any](x *numbers, list []T) T { return list[x.below(len(list))] }

// epoch is the reference to the epoch's cell.
var epoch = world.At{Place: api.Place{Kind: 1}}

// watched is a world that tells which loads it was asked for, and how often it was asked for anything else.
type watched struct {
	world.World
	loads []world.At
	asks  int
}

func (w *watched) Load(a world.At) world.Val {
	w.loads = append(w.loads, a)
	return w.World.Load(a)
}
func (w *watched) Store(a world.At, v world.Val) { w.asks++; w.World.Store(a, v) }
func (w *watched) Swap(a world.At, old, new world.Val) bool {
	w.asks++
	return w.World.Swap(a, old, new)
}
func (w *watched) Add(a world.At, n uint64) uint64 { w.asks++; return w.World.Add(a, n) }
func (w *watched) Born(slot int) int               { w.asks++; return w.World.Born(slot) }
func (w *watched) Peek(p api.Place) uint64         { w.asks++; return w.World.Peek(p) }
func (w *watched) Count() cell.Count               { w.asks++; return w.World.Count() }

// just holds that it was asked for the epoch's cell n times, and for nothing else, and forgets that.
func (w *watched) just(t *testing.T, n int) {
	t.Helper()
	if len(w.loads) != n || slices.ContainsFunc(w.loads, func(a world.At) bool { return a != epoch }) || w.asks != 0 {
		t.Fatal("asked for", w.loads, w.asks, "not", n, "loads of the epoch's cell")
	}
	w.loads, w.asks = nil, 0
}

// watching is a world, watched.
func watching(w world.World) *watched { return &watched{World: w} }

// worlds are one of each kind of worlds, started, with a birth and words at other cells.
func worlds() map[string]world.World {
	all := map[string]world.World{"plain": world.New(), "ghost": ghost.New(), "ideal": ideal.New(), "shade": shade.New(77, 78)}
	for _, w := range all {
		world.Start(w)
		id := w.Born(1)
		for i, p := range []api.Place{place.Pool(), place.Fresh(), place.Root(0), place.Of(1, place.Key), place.Link(1, 0), {}} {
			w.Store(world.At{Place: p, Id: id}, world.Val{Word: uint64(i) + 40, Id: id})
		}
	}
	return all
}

// stored is the world behind another epoch.
func stored(w world.World, word uint64) world.World {
	w.Store(epoch, world.Val{Word: word})
	return w
}

// at is a world in which the epoch's cell is that.
func at(word uint64) world.World { return stored(world.New(), word) }

// ofInt is a word as an int, 0 if it can't be; and whether it can.
func ofInt(word uint64) (int, bool) {
	if word>>63 == 1 {
		return 0, false
	}
	return int(word), true
}

// linkWord is the word of a link, bit by bit; 0, if it can't be.
func linkWord(mark bool, slot, version int) uint64 {
	if slot < 0 || slot > maxSlots || version < 0 || version > maxEpoch {
		return 0
	}
	var w uint64
	for k := range 40 {
		w |= uint64(version>>k&1) << k
	}
	for k := range 23 {
		w |= uint64(slot>>k&1) << (40 + k)
	}
	if mark {
		w |= 1 << 63
	}
	return w
}

// model is what the chapter says of a thread.
type model struct {
	conf  api.Config
	epoch int
	rolls int
	holds bool
	held  soul.Who
	own   []queue.Entry
}

func (m *model) check(word uint64) { m.epoch, _ = ofInt(word) }

func (m *model) valid(word uint64) bool {
	n, is := ofInt(word)
	if is && n == m.epoch {
		return true
	}
	m.rolls++
	return false
}

func (m *model) to(who soul.Who) world.Val {
	return world.Val{Word: linkWord(false, who.Slot, m.epoch), Id: who.Id}
}

func (m *model) mark(old world.Val, who soul.Who) world.Val {
	if old.Word>>63 == 1 {
		return old
	}
	return world.Val{Word: linkWord(true, who.Slot, m.epoch), Id: who.Id}
}

func (m *model) hold(who soul.Who) api.Errno {
	if m.holds {
		return api.ErrState
	}
	if who.Slot < 1 || who.Slot > m.conf.Slots {
		return api.ErrArg
	}
	m.holds, m.held = true, who
	return api.OK
}

func (m *model) take() (soul.Who, bool) {
	who, holds := m.held, m.holds
	m.held, m.holds = soul.Who{}, false
	return who, holds
}

func (m *model) drop() {
	if who, holds := m.take(); holds {
		m.own = append(m.own, queue.Entry{Slot: who.Slot, Retired: 0, Id: who.Id})
	}
}

// same holds all that a thread tells of itself against the model.
func same(t *testing.T, c *core.Core, m *model) {
	t.Helper()
	if c.Conf() != m.conf || c.Epoch() != m.epoch || c.Rolls() != m.rolls {
		t.Fatal("Conf, Epoch, Rolls", c.Conf(), m.conf, c.Epoch(), m.epoch, c.Rolls(), m.rolls)
	}
	if who, holds := c.Held(); who != m.held || holds != m.holds {
		t.Fatal("Held", who, holds, m.held, m.holds)
	}
	if got := c.Queue().List(); !slices.Equal(got, m.own) {
		t.Fatal("Queue", got, m.own)
	}
}

// checked is a thread of a list of 8 slots behind a checkpoint with that epoch.
func checked(word uint64) *core.Core {
	c := core.New(list(8))
	c.Check(at(word))
	return c
}

// The example: behind Check with the epoch 3, and another thread's advance to 4, Valid is false.
func TestExample(t *testing.T) {
	for name, w := range worlds() {
		stored(w, 3)
		c := core.New(list(8))
		c.Check(w)
		if c.Epoch() != 3 || !c.Valid(w) || c.Rolls() != 0 {
			t.Error(name, c.Epoch(), c.Rolls())
		}
		if !w.Swap(epoch, world.Val{Word: 3}, world.Val{Word: 4}) {
			t.Error(name, "the epoch is", w.Peek(epoch.Place))
		}
		if c.Valid(w) || c.Epoch() != 3 || c.Rolls() != 1 {
			t.Error(name, "behind the advance", c.Epoch(), c.Rolls())
		}
	}
}

// How machines stand.
func TestStates(t *testing.T) {
	for i, s := range []core.State{core.Busy, core.Done, core.Again, core.Full, core.Late} {
		if int(s) != i {
			t.Error(i, s)
		}
	}
}

// P13.1: a new thread is of its structure, and has nothing: the epoch 0, no slot, an empty queue, and it never rolled back.
func TestNew(t *testing.T) {
	for _, conf := range structures {
		c := core.New(conf)
		if c == nil {
			t.Fatal(conf, "is none")
		}
		if q := c.Queue(); q == nil || q.Len() != 0 {
			t.Error(conf, "has slots")
		}
		for range 2 {
			same(t, c, &model{conf: conf})
			if who, holds := c.Take(); who != (soul.Who{}) || holds {
				t.Error(conf, who, holds)
			}
			c.Drop()
		}
	}
}

// P13.1: there is no thread of a structure that can't be.
func TestNewNone(t *testing.T) {
	for _, conf := range none() {
		if c := core.New(conf); c != nil {
			t.Error(conf, c.Conf())
		}
	}
}

// P13.1, rule 4: what one thread has no other one has, of the same structure neither.
func TestNewApart(t *testing.T) {
	a, b := core.New(list(8)), core.New(list(8))
	if a == b || a.Queue() == b.Queue() {
		t.Fatal("two threads are one")
	}
	w := at(5)
	a.Check(w)
	a.Valid(stored(w, 6))
	a.Hold(soul.Who{Slot: 3, Id: 4})
	a.Drop()
	a.Hold(soul.Who{Slot: 5, Id: 6})
	same(t, a, &model{conf: list(8), epoch: 5, rolls: 1, holds: true, held: soul.Who{Slot: 5, Id: 6}, own: []queue.Entry{{Slot: 3, Id: 4}}})
	same(t, b, &model{conf: list(8)})
	same(t, core.New(list(8)), &model{conf: list(8)})
}

// P13.1: the thread's epoch is what the last Check read, as an int, and 0 where it can't be one; whatever the epoch was ahead of that.
func TestCheck(t *testing.T) {
	for name, w := range worlds() {
		for _, first := range words {
			for _, word := range words {
				c := core.New(list(8))
				c.Check(stored(w, first))
				c.Check(stored(w, word))
				if n, _ := ofInt(word); c.Epoch() != n || c.Rolls() != 0 {
					t.Fatal(name, first, word, c.Epoch(), c.Rolls())
				}
			}
		}
	}
}

// P13.1: a word that is an epoch by its low bits alone is none; one above each limit is one all the same.
func TestCheckWords(t *testing.T) {
	for _, e := range []struct {
		word uint64
		want int
	}{
		{0, 0}, {1, 1}, {maxEpoch, maxEpoch}, {maxEpoch + 1, maxEpoch + 1}, {1<<63 - 1, math.MaxInt},
		{1 << 63, 0}, {1<<63 + 1, 0}, {math.MaxUint64 - 1, 0}, {math.MaxUint64, 0},
	} {
		if c := checked(e.word); c.Epoch() != e.want {
			t.Error(e.word, c.Epoch(), e.want)
		}
	}
}

// P13.1: Check and Valid are one Load of the epoch's cell each, of any world, and nothing else; it counts as one.
func TestAccess(t *testing.T) {
	for name, inner := range worlds() {
		for _, word := range words {
			stored(inner, word)
			w := watching(inner)
			c := core.New(list(8))
			c.Hold(soul.Who{Slot: 2, Id: 9})
			for _, now := range []uint64{word, word, 17} {
				stored(inner, now)
				want := inner.Count()
				c.Valid(w)
				w.just(t, 1)
				want.Loads++
				if got := inner.Count(); got != want {
					t.Fatal(name, word, "Valid", got, want)
				}
				c.Check(w)
				w.just(t, 1)
				want.Loads++
				if got := inner.Count(); got != want {
					t.Fatal(name, word, "Check", got, want)
				}
				if got := inner.Peek(epoch.Place); got != now {
					t.Fatal(name, word, "the epoch became", got)
				}
			}
		}
	}
}

// P13.1, rule 3: all other calls make no access, and what a world holds is as it was.
func TestNoAccess(t *testing.T) {
	for name, inner := range worlds() {
		w := watching(inner)
		c := core.New(list(8))
		c.Check(w)
		c.Valid(w)
		w.just(t, 2)
		before := inner.Count()
		for _, slot := range slots {
			who := soul.Who{Slot: slot, Id: 3}
			c.Mark(c.To(who), who)
			c.Hold(who)
			c.Held()
			c.Take()
			c.Hold(who)
			c.Drop()
		}
		c.Queue().List()
		if c.Epoch() != 1 || c.Rolls() != 0 || c.Conf() != list(8) {
			t.Error(name, c.Epoch(), c.Rolls(), c.Conf())
		}
		w.just(t, 0)
		if inner.Count() != before {
			t.Error(name, inner.Count(), before)
		}
	}
}

// P13.1: Valid tells whether the word is the thread's epoch: of each epoch that was checked, and each word that stands there then.
func TestValid(t *testing.T) {
	for name, w := range worlds() {
		for _, word := range words {
			for _, now := range words {
				c, m := core.New(list(8)), &model{conf: list(8)}
				c.Check(stored(w, word))
				m.check(word)
				stored(w, now)
				for range 3 {
					if got, want := c.Valid(w), m.valid(now); got != want {
						t.Fatal(name, word, now, got, want)
					}
					same(t, c, m)
				}
			}
		}
	}
}

// P13.1: a word that can't be an int is nobody's epoch, that of a thread neither whose epoch is 0 since it read just that word.
func TestValidOfNobody(t *testing.T) {
	for _, word := range []uint64{1 << 63, 1<<63 + 1, math.MaxUint64} {
		for _, c := range []*core.Core{core.New(list(8)), checked(0), checked(word), checked(5)} {
			if c.Valid(at(word)) || c.Rolls() != 1 {
				t.Error(word, c.Epoch(), c.Rolls())
			}
		}
	}
	if c := checked(math.MaxUint64); !c.Valid(at(0)) || c.Rolls() != 0 {
		t.Error("the epoch 0", c.Epoch(), c.Rolls())
	}
}

// P13.1: ahead of the first Check the epoch is 0: valid where that is the word, and nowhere else.
func TestValidFirst(t *testing.T) {
	for _, word := range words {
		c := core.New(list(8))
		if got := c.Valid(at(word)); got != (word == 0) || c.Epoch() != 0 {
			t.Error(word, got, c.Epoch())
		}
	}
}

// tells is a world whose loads answer just that.
type tells struct {
	world.World
	val world.Val
}

func (w tells) Load(world.At) world.Val { return w.val }

// P13.1: the word alone is the epoch; whom it leads to, and whether it is stale, plays no part.
func TestWordAlone(t *testing.T) {
	for _, word := range words {
		for _, id := range ids {
			for _, stale := range []bool{false, true} {
				c, m := core.New(list(8)), &model{conf: list(8)}
				w := tells{val: world.Val{Word: word, Id: id, Stale: stale}}
				c.Check(w)
				m.check(word)
				if got, want := c.Valid(w), m.valid(word); got != want {
					t.Fatal(word, id, stale, got)
				}
				same(t, c, m)
			}
		}
	}
}

// P13.4: valid again and again, as long as the epoch stands, or another thread stores it anew as it was.
func TestStoredAnew(t *testing.T) {
	for name, w := range worlds() {
		for _, word := range words {
			if _, is := ofInt(word); !is {
				continue
			}
			c := core.New(list(8))
			c.Check(stored(w, word))
			for i := range 4 {
				w.Store(epoch, world.Val{Word: word, Id: i, Stale: i == 2})
				w.Swap(epoch, world.Val{Word: word}, world.Val{Word: word, Id: i})
				w.Swap(epoch, world.Val{Word: word + 1}, world.Val{Word: word + 2})
				w.Add(epoch, 0)
				w.Store(world.At{Place: place.Pool()}, world.Val{Word: word + 1})
				if !c.Valid(w) || c.Rolls() != 0 {
					t.Fatal(name, word, i)
				}
			}
			if c.Valid(stored(w, word+1)) || !c.Valid(stored(w, word)) || c.Rolls() != 1 {
				t.Fatal(name, word, "away and back", c.Rolls())
			}
		}
	}
}

// P13.4: what was checked isn't valid any more once epochs go on, however often they do; a new Check is.
func TestNeverAgain(t *testing.T) {
	for name, w := range worlds() {
		for _, first := range []uint64{0, 1, 2, 255, 1<<32 - 5, maxEpoch - 300, maxEpoch - 3} {
			old, new := core.New(list(8)), core.New(list(8))
			old.Check(stored(w, first))
			for i := range 300 {
				new.Check(w)
				if !new.Valid(w) || old.Valid(w) != (i == 0) {
					t.Fatal(name, first, i)
				}
				if was := w.Add(epoch, 1); was != first+uint64(i) {
					t.Fatal(name, first, i, was)
				}
				if new.Valid(w) || old.Valid(w) {
					t.Fatal(name, first, i, "behind the advance")
				}
			}
			if old.Rolls() != 599 || new.Rolls() != 300 || old.Epoch() != int(first) {
				t.Error(name, first, old.Rolls(), new.Rolls(), old.Epoch())
			}
		}
	}
}

// P13.1: Rolls is how often Valid was false: not Check's loads, not when it was true, not what other threads did; and it never begins anew.
func TestRolls(t *testing.T) {
	w := at(3)
	a, b := core.New(list(8)), core.New(list(8))
	a.Check(w)
	b.Check(w)
	want := 0
	for i := range 50 {
		for range i % 4 {
			if !a.Valid(w) {
				t.Fatal(i)
			}
		}
		w.Add(epoch, 1)
		for range i % 5 {
			if a.Valid(w) {
				t.Fatal(i)
			}
			want++
		}
		a.Check(w)
		a.Check(w)
		if a.Rolls() != want || b.Rolls() != 0 {
			t.Fatal(i, a.Rolls(), want, b.Rolls())
		}
	}
	for _, who := range []soul.Who{{Slot: 1}, {Slot: 0}, {Slot: 9}} {
		a.Hold(who)
		a.Drop()
		a.Take()
	}
	if a.Rolls() != want {
		t.Error(a.Rolls(), want)
	}
}

// P13.2: To is the link to who's slot, without a mark, of the thread's epoch, with who's Id; the word 0 where such a link can't be.
func TestTo(t *testing.T) {
	for _, word := range words {
		c, m := checked(word), &model{conf: list(8)}
		m.check(word)
		for _, slot := range slots {
			for _, id := range ids {
				who := soul.Who{Slot: slot, Id: id}
				if got, want := c.To(who), m.to(who); got != want {
					t.Fatal(word, who, got, want)
				}
			}
		}
		same(t, c, m)
	}
}

// P13.2: some links' words, by hand.
func TestToWords(t *testing.T) {
	for _, l := range []struct {
		epoch uint64
		who   soul.Who
		want  world.Val
	}{
		{2, soul.Who{Slot: 1, Id: 5}, world.Val{Word: 0x0000010000000002, Id: 5}},
		{0, soul.Who{Slot: 1, Id: 5}, world.Val{Word: 0x0000010000000000, Id: 5}},
		{7, soul.Who{}, world.Val{Word: 7}},
		{7, soul.Who{Slot: 9, Id: 1}, world.Val{Word: 0x0000090000000007, Id: 1}},
		{maxEpoch, soul.Who{Slot: maxSlots, Id: -1}, world.Val{Word: 0x7FFFFFFFFFFFFFFF, Id: -1}},
		{maxEpoch + 1, soul.Who{Slot: 1, Id: 5}, world.Val{Id: 5}},
		{1<<63 - 1, soul.Who{Slot: 1, Id: 5}, world.Val{Id: 5}},
		{2, soul.Who{Slot: maxSlots + 1, Id: 5}, world.Val{Id: 5}},
		{2, soul.Who{Slot: -1, Id: 5}, world.Val{Id: 5}},
	} {
		c := checked(l.epoch)
		if got := c.To(l.who); got != l.want {
			t.Error(l.epoch, l.who, got, l.want)
		}
		marked := l.want
		if marked.Word != 0 {
			marked.Word |= 1 << 63
		}
		if got := c.Mark(world.Val{Word: 3<<40 | 1, Id: 8, Stale: true}, l.who); got != marked {
			t.Error("Mark", l.epoch, l.who, got, marked)
		}
	}
}

// P13.2: of the thread's epoch, as its last Check read it, not as it is now, nor as a Valid saw it.
func TestOfItsEpoch(t *testing.T) {
	w := at(2)
	c := core.New(list(8))
	who := soul.Who{Slot: 3, Id: 4}
	holds := func(version int) {
		t.Helper()
		if v := c.To(who); v != (world.Val{Word: linkWord(false, 3, version), Id: 4}) {
			t.Error("To", v, version)
		}
		if v := c.Mark(world.Val{Word: 9, Id: 1}, who); v != (world.Val{Word: linkWord(true, 3, version), Id: 4}) {
			t.Error("Mark", v, version)
		}
	}
	holds(0)
	c.Valid(w)
	holds(0)
	c.Check(w)
	holds(2)
	stored(w, 8)
	holds(2)
	c.Valid(w)
	holds(2)
	c.Check(w)
	holds(8)
	c.Check(stored(w, 1<<63))
	holds(0)
}

// P13.2: Mark of a word with a mark is that value as it is; of one without it is the link with a mark to who's slot, of the thread's epoch, with who's Id.
func TestMark(t *testing.T) {
	for _, word := range words {
		c, m := checked(word), &model{conf: list(8)}
		m.check(word)
		for _, old := range links {
			for i, slot := range slots {
				for j, id := range ids {
					v := world.Val{Word: old, Id: ids[(i+j)%len(ids)], Stale: (i+j)%3 == 0}
					who := soul.Who{Slot: slot, Id: id}
					if got, want := c.Mark(v, who), m.mark(v, who); got != want {
						t.Fatal(word, v, who, got, want)
					}
				}
			}
		}
		same(t, c, m)
	}
}

// P13.2: what is marked can't be marked anew, by whichever thread.
func TestMarkTwice(t *testing.T) {
	a, b := checked(3), checked(7)
	for _, slot := range slots {
		who := soul.Who{Slot: slot, Id: 5}
		first := a.Mark(a.To(soul.Who{Slot: 2, Id: 6}), who)
		if first.Word == 0 {
			continue
		}
		if second := b.Mark(first, soul.Who{Slot: 4, Id: 9}); second != first || core.Lead(second) != who {
			t.Error(slot, first, second)
		}
	}
}

// P13.2: Lead is the slot of the link that the word is, marked or not, of whatever version, with the value's Id.
func TestLead(t *testing.T) {
	for _, word := range append(slices.Clone(links), words...) {
		for _, id := range ids {
			for _, stale := range []bool{false, true} {
				want := soul.Who{Slot: int(word << 1 >> 41), Id: id}
				if got := core.Lead(world.Val{Word: word, Id: id, Stale: stale}); got != want {
					t.Error(word, id, got, want)
				}
			}
		}
	}
	for _, l := range []struct {
		word uint64
		slot int
	}{{0, 0}, {math.MaxUint64, maxSlots}, {0x8000010000000002, 1}, {0x0000010000000002, 1}, {1 << 63, 0}, {maxEpoch, 0}, {1 << 40, 1}, {1 << 62, 1 << 22}} {
		if got := core.Lead(world.Val{Word: l.word, Id: 4}); got != (soul.Who{Slot: l.slot, Id: 4}) {
			t.Error(l.word, got, l.slot)
		}
	}
}

// P13.2: Lead tells whom To and Mark lead to.
func TestLeadBack(t *testing.T) {
	for _, word := range []uint64{0, 1, 3, maxEpoch} {
		c := checked(word)
		for _, slot := range []int{0, 1, 2, 8, 9, 255, maxSlots - 1, maxSlots} {
			for _, id := range ids {
				who := soul.Who{Slot: slot, Id: id}
				if to, mark := core.Lead(c.To(who)), core.Lead(c.Mark(world.Val{Word: 1, Id: 2}, who)); to != who || mark != who {
					t.Error(word, who, to, mark)
				}
			}
		}
	}
}

// P13.3: a slot from 1 to Slots can be held, of any structure, with any Id; none else is, and what isn't held changes nothing.
func TestHold(t *testing.T) {
	for _, conf := range structures {
		edges := append([]int{conf.Slots - 1, conf.Slots, conf.Slots + 1, conf.Slots / 2, -conf.Slots, 1<<32 + conf.Slots}, slots...)
		for i, slot := range edges {
			c, m := core.New(conf), &model{conf: conf}
			who := soul.Who{Slot: slot, Id: ids[i%len(ids)]}
			want := api.ErrArg
			if slot >= 1 && slot <= conf.Slots {
				want = api.OK
				m.holds, m.held = true, who
			}
			if err := c.Hold(who); err != want {
				t.Error(conf, who, err, want)
			}
			same(t, c, m)
		}
	}
}

// P13.3: of one that holds a slot Hold is ErrState, of the same slot too, and of one that can't be; it goes on to hold what it held.
func TestHoldTwice(t *testing.T) {
	for _, id := range ids {
		c, m := core.New(list(8)), &model{conf: list(8)}
		who := soul.Who{Slot: 8, Id: id}
		c.Hold(who)
		m.hold(who)
		for _, slot := range slots {
			for _, other := range ids {
				if err := c.Hold(soul.Who{Slot: slot, Id: other}); err != api.ErrState {
					t.Fatal(id, slot, other, err)
				}
			}
			same(t, c, m)
		}
	}
}

// P13.3: Held tells what is held again and again; Take once, and another slot can be held then, or the same one.
func TestTake(t *testing.T) {
	c := core.New(list(8))
	for _, slot := range []int{1, 8, 8, 3, 1} {
		for _, id := range ids {
			who := soul.Who{Slot: slot, Id: id}
			if err := c.Hold(who); err != api.OK {
				t.Fatal(who, err)
			}
			for range 3 {
				if got, holds := c.Held(); got != who || !holds {
					t.Fatal(who, got, holds)
				}
			}
			if got, holds := c.Take(); got != who || !holds {
				t.Fatal(who, got, holds)
			}
			for range 2 {
				same(t, c, &model{conf: list(8)})
				if got, holds := c.Take(); got != (soul.Who{}) || holds {
					t.Fatal(who, got, holds)
				}
			}
		}
	}
}

// P13.3: what is dropped stands behind all in the queue, as who it was, with Retired 0, whatever the epoch; none is held then.
func TestDrop(t *testing.T) {
	c, m := core.New(list(8)), &model{conf: list(8)}
	w := at(5)
	c.Check(w)
	m.check(5)
	for i := range 40 {
		if i%3 == 0 {
			e := queue.Entry{Slot: 1 + i%8, Retired: i, Id: 100 + i}
			c.Queue().Push(e)
			m.own = append(m.own, e)
		}
		who := soul.Who{Slot: 1 + i%8, Id: ids[i%len(ids)]}
		if err := c.Hold(who); err != api.OK {
			t.Fatal(i, err)
		}
		c.Drop()
		m.own = append(m.own, queue.Entry{Slot: who.Slot, Retired: 0, Id: who.Id})
		same(t, c, m)
		c.Drop()
		same(t, c, m)
		if i%4 == 0 {
			if e, ok := c.Queue().Pop(); e != m.own[0] || !ok {
				t.Fatal(i, e, ok)
			}
			m.own = m.own[1:]
		}
	}
}

// P13.3: Drop of what was taken, or never held, leaves the queue as it is.
func TestDropNone(t *testing.T) {
	c := core.New(list(8))
	c.Drop()
	c.Hold(soul.Who{Slot: 0, Id: 1})
	c.Drop()
	c.Hold(soul.Who{Slot: 9, Id: 1})
	c.Drop()
	c.Hold(soul.Who{Slot: 2, Id: 1})
	c.Take()
	c.Drop()
	same(t, c, &model{conf: list(8)})
	c.Queue().Push(queue.Entry{Slot: 4, Retired: 6, Id: 3})
	c.Drop()
	same(t, c, &model{conf: list(8), own: []queue.Entry{{Slot: 4, Retired: 6, Id: 3}}})
}

// P13.3: the queue is the same one each time, whatever was done between.
func TestQueue(t *testing.T) {
	c := core.New(list(8))
	q := c.Queue()
	w := at(5)
	for i := range 20 {
		c.Check(w)
		c.Valid(w)
		c.Hold(soul.Who{Slot: 1 + i%8, Id: i})
		c.Held()
		if i%2 == 0 {
			c.Take()
		}
		c.Drop()
		if c.Queue() != q || q.Len() != (i+1)/2 {
			t.Fatal(i, q.List())
		}
	}
}

// thread is a thread, and what the chapter says of it.
type thread struct {
	core  *core.Core
	model *model
}

// step is any call of a thread, in a world whose epoch is that word.
func step(t *testing.T, x *numbers, w *watched, word uint64, th *thread) {
	t.Helper()
	c, m := th.core, th.model
	who := soul.Who{Slot: one(x, slots), Id: one(x, ids)}
	if x.below(2) == 0 {
		who.Slot = x.below(m.conf.Slots%10 + 3)
	}
	loads := 0
	switch x.below(10) {
	case 0:
		c.Check(w)
		m.check(word)
		loads = 1
	case 1:
		if got, want := c.Valid(w), m.valid(word); got != want {
			t.Fatal("Valid", word, got, want)
		}
		loads = 1
	case 2, 3, 4:
		if got, want := c.Hold(who), m.hold(who); got != want {
			t.Fatal("Hold", who, got, want)
		}
	case 5:
		got, holds := c.Take()
		if want, wants := m.take(); got != want || holds != wants {
			t.Fatal("Take", got, holds, want, wants)
		}
	case 6:
		c.Drop()
		m.drop()
	case 7:
		if got, want := c.To(who), m.to(who); got != want {
			t.Fatal("To", who, got, want)
		}
	case 8:
		old := world.Val{Word: one(x, links), Id: one(x, ids), Stale: x.below(2) == 0}
		if got, want := c.Mark(old, who), m.mark(old, who); got != want {
			t.Fatal("Mark", old, who, got, want)
		}
	case 9:
		v := world.Val{Word: one(x, links), Id: who.Id}
		if got, want := core.Lead(v), (soul.Who{Slot: int(v.Word << 1 >> 41), Id: who.Id}); got != want {
			t.Fatal("Lead", v, got, want)
		}
	}
	w.just(t, loads)
}

// P13.1 to P13.4: rows of calls of three threads in one world, in any order, beside what the chapter says, behind each of them, of all threads.
func TestMany(t *testing.T) {
	x := numbers(13)
	for _, conf := range structures {
		// By name, so that each run of the test draws the same numbers.
		all := worlds()
		for _, name := range slices.Sorted(maps.Keys(all)) {
			inner := all[name]
			w := watching(inner)
			var threads []*thread
			for range 3 {
				threads = append(threads, &thread{core.New(conf), &model{conf: conf}})
			}
			word := uint64(1)
			for i := range 400 {
				switch x.below(12) {
				case 0:
					word = one(&x, words)
				case 1, 2:
					word++
				}
				stored(inner, word)
				step(t, &x, w, word, one(&x, threads))
				for _, th := range threads {
					same(t, th.core, th.model)
				}
				if inner.Peek(epoch.Place) != word {
					t.Fatal(name, i, "the epoch became", inner.Peek(epoch.Place))
				}
			}
		}
	}
}

// P13.1, rule 5: of a nil thread zero values, false, ErrNil, and no access, at all arguments.
func TestNil(t *testing.T) {
	var c *core.Core
	for name, inner := range worlds() {
		for _, word := range words {
			w := watching(stored(inner, word))
			before := inner.Count()
			c.Check(w)
			if c.Valid(w) || c.Epoch() != 0 || c.Rolls() != 0 {
				t.Error(name, word, c.Epoch(), c.Rolls())
			}
			w.just(t, 0)
			if inner.Count() != before {
				t.Error(name, word, inner.Count(), before)
			}
		}
	}
	c.Check(nil)
	if c.Valid(nil) || c.Rolls() != 0 || c.Conf() != (api.Config{}) || c.Queue() != nil {
		t.Error(c.Rolls(), c.Conf(), c.Queue())
	}
	for _, slot := range slots {
		who := soul.Who{Slot: slot, Id: 7}
		if v := c.To(who); v != (world.Val{}) {
			t.Error(who, v)
		}
		for _, word := range links {
			if v := c.Mark(world.Val{Word: word, Id: 3, Stale: true}, who); v != (world.Val{}) {
				t.Error(who, word, v)
			}
		}
		if err := c.Hold(who); err != api.ErrNil {
			t.Error(who, err)
		}
		c.Drop()
		if got, holds := c.Held(); got != (soul.Who{}) || holds {
			t.Error(who, got, holds)
		}
		if got, holds := c.Take(); got != (soul.Who{}) || holds {
			t.Error(who, got, holds)
		}
	}
}

// around is a world of another package, with a world in it: of nil, and around none, it panics.
type around struct{ world.World }

// P1: no call panics, whatever world is handed in; the thread goes on behind it.
func TestWorldOfNone(t *testing.T) {
	var p *world.Plain
	var g *ghost.Ghost
	var i *ideal.Ideal
	var s *shade.Shade
	var a *around
	var n *watched
	for _, w := range []world.World{nil, p, g, i, s, a, around{}, &around{}, around{p}, &around{a}, n} {
		for _, word := range words {
			c := checked(word)
			c.Hold(soul.Who{Slot: 2, Id: 3})
			c.Valid(w)
			c.Check(w)
			c.Valid(w)
			c.Check(at(6))
			if who, holds := c.Held(); !c.Valid(at(6)) || c.Epoch() != 6 || who != (soul.Who{Slot: 2, Id: 3}) || !holds {
				t.Fatal(word, c.Epoch(), who, holds)
			}
		}
	}
}

// P1: no call panics, of a thread that no call made either.
func TestZero(t *testing.T) {
	for _, slot := range slots {
		c := &core.Core{}
		who := soul.Who{Slot: slot, Id: 1}
		c.Check(at(4))
		c.Valid(at(5))
		c.Mark(c.To(who), who)
		c.Hold(who)
		c.Held()
		c.Drop()
		c.Hold(who)
		c.Take()
		c.Queue().List()
		c.Conf()
		c.Epoch()
		c.Rolls()
	}
}
