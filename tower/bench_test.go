package tower_test

import (
	"math"
	"slices"
	"testing"

	"revenant/api"
	"revenant/cell"
	"revenant/core"
	"revenant/ghost"
	"revenant/ideal"
	"revenant/shade"
	"revenant/soul"
	"revenant/tower"
	"revenant/world"
)

// The limits, as the document says them.
const (
	maxSlots  = 1<<23 - 1
	maxEpoch  = 1<<40 - 1
	maxHeight = 16
)

// epochCell is the epoch's.
var epochCell = api.Place{Kind: 1}

// The parts of a slot, as layer 5 numbers them.
const (
	keyPart, topPart, statePart, nextPart = 3, 5, 6, 7
)

// mark is a link's.
const mark = 1 << 63

// root is a root's cell, part a slot's.
func root(i int) api.Place       { return api.Place{Kind: 4, Part: i} }
func part(slot, n int) api.Place { return api.Place{Kind: 5, Slot: slot, Part: n} }

// ref is a reference to a cell that is nobody's.
func ref(p api.Place) world.At { return world.At{Place: p} }

// by is a reference to a slot's part, by who it is; next to its link at a level.
func by(who soul.Who, n int) world.At       { return world.At{Place: part(who.Slot, n), Id: who.Id} }
func next(who soul.Who, level int) world.At { return by(who, nextPart+level) }

// val is a word that leads to nobody.
func val(word uint64) world.Val { return world.Val{Word: word} }

// link is the word of a link without a mark, 0 if there is none of that epoch; to is such a link to somebody.
func link(slot, version int) uint64 {
	if version < 0 || version > maxEpoch {
		return 0
	}
	return uint64(slot)<<40 | uint64(version)
}
func to(who soul.Who, version int) world.Val {
	return world.Val{Word: link(who.Slot, version), Id: who.Id}
}

// slotOf is where a link's word leads.
func slotOf(word uint64) int { return int(word << 1 >> 41) }

// lead is whom a link leads to.
func lead(v world.Val) soul.Who { return soul.Who{Slot: slotOf(v.Word), Id: v.Id} }

// ofInt is a word as an int, and whether it can be one.
func ofInt(word uint64) (int, bool) {
	if word>>63 == 1 {
		return 0, false
	}
	return int(word), true
}

// skip is a skip list; others are structures that are none.
func skip(slots, height int) api.Config {
	return api.Config{Kind: api.Skip, Slots: slots, Height: height, Limit: maxEpoch}
}
func others(slots int) []api.Config {
	return []api.Config{
		{Kind: api.List, Slots: slots, Height: 1, Limit: maxEpoch},
		{Kind: api.Hash, Slots: slots, Buckets: 1, Height: 1, Limit: maxEpoch},
		{Kind: api.Hash, Slots: slots, Buckets: 64, Height: 1, Limit: 2},
	}
}

// alone is layer 3's Alone, as the document says it.
func alone(c api.Config) int { return 64 * (c.Slots + 4) * (c.Height + 1) }

// kinds are the kinds of worlds.
var kinds = []string{"plain", "ghost", "ideal", "shade"}

// made is a new world of a kind, all of whose cells are 0.
func made(kind string) world.World {
	switch kind {
	case "ghost":
		return ghost.New()
	case "ideal":
		return ideal.New()
	case "shade":
		return shade.New(0, mark, link(1, 1), 5, link(2, 3), mark|link(1, 7), math.MaxUint64)
	}
	return world.New()
}

// numbers are numbers that look like any, always the same.
type numbers uint64

// below is the next one, below n.
func (x *numbers) below(n int) int {
	*x = *x*6364136223846793005 + 1442695040888963407
	return int(*x>>33) % n
}

// one is one of a list.
func one[T any](x *numbers, list []T) T { return list[x.below(len(list))] }

// access is one access, what was handed in, and what was answered.
type access struct {
	kind string
	at   world.At
	old  world.Val // of a swap
	new  world.Val // of a swap, and of a store
	got  world.Val // of a load
	done bool      // of a swap
}

// event is what of an access is the same in each world.
type event struct {
	kind string
	at   api.Place
	done bool
}

// watched is a world that keeps which accesses it was asked for, and how often it was asked for anything else.
type watched struct {
	world.World
	seen []access
	all  []event
	asks int
}

func (w *watched) Load(a world.At) world.Val {
	got := w.World.Load(a)
	w.saw(access{kind: "load", at: a, got: got})
	return got
}
func (w *watched) Store(a world.At, v world.Val) {
	w.World.Store(a, v)
	w.saw(access{kind: "store", at: a, new: v})
}
func (w *watched) Swap(a world.At, old, new world.Val) bool {
	done := w.World.Swap(a, old, new)
	w.saw(access{kind: "swap", at: a, old: old, new: new, done: done})
	return done
}
func (w *watched) Add(a world.At, n uint64) uint64 {
	was := w.World.Add(a, n)
	w.saw(access{kind: "add", at: a})
	return was
}
func (w *watched) Born(slot int) int       { w.asks++; return w.World.Born(slot) }
func (w *watched) Peek(p api.Place) uint64 { w.asks++; return w.World.Peek(p) }
func (w *watched) Count() cell.Count       { w.asks++; return w.World.Count() }
func (w *watched) saw(a access) {
	w.seen, w.all = append(w.seen, a), append(w.all, event{a.kind, a.at.Place, a.done})
}
func (w *watched) forget()                     { w.seen, w.asks = nil, 0 }
func (w *watched) put(a world.At, word uint64) { w.World.Store(a, val(word)) }

// idle holds that nothing was asked for.
func (w *watched) idle(t *testing.T) {
	t.Helper()
	if len(w.seen) != 0 || w.asks != 0 {
		t.Fatal("asked for", w.seen, w.asks)
	}
}

// asked holds the accesses that were made, what was handed in alone, against a row of such.
func (w *watched) asked(t *testing.T, want ...access) {
	t.Helper()
	var got []access
	for _, a := range w.seen {
		got = append(got, access{kind: a.kind, at: a.at, old: a.old, new: a.new})
	}
	if !slices.Equal(got, want) {
		t.Fatal("asked for", got, "not", want)
	}
	w.forget()
}

// The accesses, as they are handed in.
func loads(at world.At) access { return access{kind: "load", at: at} }
func swaps(at world.At, old, new world.Val) access {
	return access{kind: "swap", at: at, old: old, new: new}
}

// valid is the access of a validation, and of a checkpoint.
var valid = loads(ref(epochCell))

// thread is a thread, what the chapter says of it, and its Find that goes on, if any.
type thread struct {
	core  *core.Core
	epoch int
	rolls int
	find  *tower.Find
	tell  *teller // what the chapter says of it; nil: none goes on
	last  *teller // of the one that ended last
}

// bench is some threads over one world.
type bench struct {
	t       *testing.T
	kind    string
	conf    api.Config
	w       *watched
	threads []*thread
	seen    map[string]int // how often each row went on to what
}

// benchOf is a bench of so many threads, over a new world of that kind, started.
func benchOf(t *testing.T, kind string, conf api.Config, threads int) *bench {
	b := &bench{t: t, kind: kind, conf: conf, w: &watched{World: made(kind)}, seen: map[string]int{}}
	for range threads {
		b.threads = append(b.threads, &thread{core: core.New(conf)})
	}
	b.w.put(ref(epochCell), 1)
	return b
}

// at is a bench of one thread, in an epoch.
func at(t *testing.T, kind string, conf api.Config, epoch uint64) (*bench, *thread) {
	b := benchOf(t, kind, conf, 1)
	b.w.put(ref(epochCell), epoch)
	return b, b.threads[0]
}

// find begins a Find of a thread: that makes no access, and changes nothing of the thread.
func (b *bench) find(th *thread, key uint64) *tower.Find {
	b.t.Helper()
	b.w.forget()
	th.find = tower.New(th.core, key)
	th.tell = &teller{b: b, th: th, row: "c", key: key}
	b.w.idle(b.t)
	if th.find == nil || th.core.Epoch() != th.epoch || th.core.Rolls() != th.rolls {
		b.t.Fatal(b.kind, b.conf, "a Find is", th.find, "the epoch", th.core.Epoch(), "the rolls", th.core.Rolls())
	}
	return th.find
}

// step makes the next step of a thread's Find, and holds it against what the chapter says: just one access, that one, and how it stands.
func (b *bench) step(th *thread) core.State {
	b.t.Helper()
	b.w.forget()
	row, own := th.tell.name(), th.core.Queue().List()
	held, holds := th.core.Held()
	state := th.find.Step(b.w)
	if len(b.w.seen) != 1 || b.w.asks != 0 {
		b.t.Fatal(b.kind, b.conf, row, "asked for", b.w.seen, b.w.asks)
	}
	if want := th.tell.step(b.w.seen[0]); state != want {
		b.t.Fatal(b.kind, b.conf, row, "is", name(state), "not", name(want), b.w.seen)
	}
	if state == core.Done {
		b.seen[row+" Done"]++
	} else {
		b.seen[row+" "+th.tell.name()]++
	}
	if th.core.Epoch() != th.epoch || th.core.Rolls() != th.rolls || th.core.Conf() != b.conf {
		b.t.Fatal(b.kind, b.conf, row, "the epoch is", th.core.Epoch(), "not", th.epoch, "the rolls", th.core.Rolls(), "not", th.rolls)
	}
	if who, has := th.core.Held(); who != held || has != holds || !slices.Equal(th.core.Queue().List(), own) {
		b.t.Fatal(b.kind, b.conf, row, "what is held is", who, has, "and the queue", th.core.Queue().List())
	}
	if state == core.Done {
		b.ended(th)
	}
	return state
}

// ended holds what is told behind Done, and that there is no further step, against what the chapter says.
func (b *bench) ended(th *thread) {
	b.t.Helper()
	f, x := th.find, th.tell
	for range 2 {
		lowest := x.levels[0]
		if f.Found() != lowest.found || f.Who() != lowest.who() || f.Out() != lowest.x {
			b.t.Fatal(b.kind, b.conf, "tells", f.Found(), f.Who(), f.Out(), "not", lowest)
		}
		for l, told := range x.levels {
			if f.At(l) != told.at || f.Into(l) != told.w || f.FoundAt(l) != told.found {
				b.t.Fatal(b.kind, b.conf, "tells of the level", l, f.At(l), f.Into(l), f.FoundAt(l), "not", told)
			}
		}
		for _, l := range []int{-1, len(x.levels), math.MinInt, math.MaxInt} {
			if f.At(l) != (world.At{}) || f.Into(l) != (world.Val{}) || f.FoundAt(l) {
				b.t.Fatal(b.kind, b.conf, "tells of the level", l, f.At(l), f.Into(l), f.FoundAt(l))
			}
		}
		b.w.forget()
		if state := f.Step(b.w); state != core.Done {
			b.t.Fatal(b.kind, b.conf, "behind Done it is", name(state))
		}
		b.w.idle(b.t)
	}
	if th.core.Rolls() != th.rolls || th.core.Epoch() != th.epoch {
		b.t.Fatal(b.kind, b.conf, "behind Done the thread has", th.core.Rolls(), th.core.Epoch())
	}
	th.tell, th.last = nil, x
}

// steps makes so many steps, each of which is Busy.
func (b *bench) steps(th *thread, n int) {
	b.t.Helper()
	for i := range n {
		if state := b.step(th); state != core.Busy {
			b.t.Fatal(b.kind, b.conf, i, name(state))
		}
	}
}

// ends makes so many steps, the last one of which is Done.
func (b *bench) ends(th *thread, n int) {
	b.t.Helper()
	b.steps(th, n-1)
	if state := b.step(th); state != core.Done {
		b.t.Fatal(b.kind, b.conf, name(state))
	}
}

// until makes steps till a row of a level is the next one.
func (b *bench) until(th *thread, row string) {
	b.t.Helper()
	for n := 0; th.tell.name() != row; n++ {
		if b.step(th) != core.Busy || n == 1000 {
			b.t.Fatal(b.kind, b.conf, "no row", row)
		}
	}
}

// run makes steps of a thread's Find till it is Done, and answers how many there were.
func (b *bench) run(th *thread) int {
	b.t.Helper()
	for n := 1; n <= 1000000; n++ {
		if b.step(th) == core.Done {
			return n
		}
	}
	b.t.Fatal(b.kind, b.conf, "no end")
	return 0
}

// name is a state's.
func name(s core.State) string {
	return []string{"Busy", "Done", "Again", "Full", "Late"}[s]
}

// item is a slot of a skip list: where it stands, its key, at how many levels it is linked, from which one on it is marked (from top on at none), and who it is, once it is laid.
type item struct {
	slot int
	key  uint64
	top  int
	from int
	id   int
}

// who is who it is.
func (i item) who() soul.Who { return soul.Who{Slot: i.slot, Id: i.id} }

// isOut is whether it is marked at a level.
func (i item) isOut(level int) bool { return level >= i.from && level < i.top }

// lay lays a skip list whose links have that version, and answers its items with who they are, and of each level each one's link there.
func (b *bench) lay(version int, items ...item) ([]item, [][]world.Val) {
	items = slices.Clone(items)
	for i := range items {
		it := &items[i]
		it.id = b.w.World.Born(it.slot)
		b.w.put(by(it.who(), keyPart), it.key)
		b.w.put(by(it.who(), topPart), uint64(it.top))
	}
	var links [][]world.Val
	for l := range b.conf.Height {
		ahead, row := val(link(0, version)), make([]world.Val, len(items))
		for i := len(items) - 1; i >= 0; i-- {
			it := items[i]
			if l >= it.top {
				continue
			}
			if it.isOut(l) {
				ahead.Word |= mark
			}
			b.w.World.Store(next(it.who(), l), ahead)
			row[i], ahead = ahead, to(it.who(), version)
		}
		b.w.World.Store(ref(root(l)), ahead)
		links = append(links, row)
	}
	return items, links
}

// linked are the slots that the root of a level leads to, in order.
func (b *bench) linked(level int) []int {
	var all []int
	for s := slotOf(b.w.World.Peek(root(level))); s != 0; s = slotOf(b.w.World.Peek(part(s, nextPart+level))) {
		if all = append(all, s); len(all) > 1000 {
			b.t.Fatal(b.kind, b.conf, "the level", level, "goes in a circle")
		}
	}
	return all
}

// isOut is whether a slot's link at a level has a mark.
func (b *bench) isOut(slot, level int) bool {
	return b.w.World.Peek(part(slot, nextPart+level)) >= mark
}

// count adds what was seen.
func (b *bench) count(seen map[string]int) {
	for s, n := range b.seen {
		seen[s] += n
	}
}

// came holds that all of these were seen.
func came(t *testing.T, seen map[string]int, all ...string) {
	t.Helper()
	for _, s := range all {
		if seen[s] == 0 {
			t.Error("no row came to", s)
		}
	}
}
