package skip_test

import (
	"math"
	"slices"
	"testing"

	"revenant/api"
	"revenant/cell"
	"revenant/core"
	"revenant/ghost"
	"revenant/ideal"
	"revenant/queue"
	"revenant/shade"
	"revenant/skip"
	"revenant/soul"
	"revenant/world"
)

// The limits, as the document says them.
const (
	maxSlots  = 1<<23 - 1
	maxEpoch  = 1<<40 - 1
	maxHeight = 16
)

// The cells that all share.
var (
	epochCell = api.Place{Kind: 1}
	poolCell  = api.Place{Kind: 2}
	freshCell = api.Place{Kind: 3}
)

// The parts of a slot, as layer 5 numbers them.
const (
	birthPart, retirePart, chainPart, keyPart, topPart, statePart, nextPart = 0, 1, 2, 3, 5, 6, 7
)

// mark is a link's.
const mark = 1 << 63

// root is a level's cell, part a slot's.
func root(level int) api.Place   { return api.Place{Kind: 4, Part: level} }
func part(slot, n int) api.Place { return api.Place{Kind: 5, Slot: slot, Part: n} }

// ref is a reference to a cell that is nobody's.
func ref(p api.Place) world.At { return world.At{Place: p} }

// by is a reference to a slot's part, by who it is; next to its link at a level.
func by(who soul.Who, n int) world.At       { return world.At{Place: part(who.Slot, n), Id: who.Id} }
func next(who soul.Who, level int) world.At { return by(who, nextPart+level) }

// val is a word that leads to nobody.
func val(word uint64) world.Val { return world.Val{Word: word} }

// link is the word of a link without a mark, 0 if there is none; marked is the one with a mark.
func link(slot, version int) uint64 {
	if slot < 0 || slot > maxSlots || version < 0 || version > maxEpoch {
		return 0
	}
	return uint64(slot)<<40 | uint64(version)
}
func marked(slot, version int) uint64 {
	if version < 0 || version > maxEpoch {
		return 0
	}
	return mark | link(slot, version)
}

// to is a link to somebody.
func to(who soul.Who, version int) world.Val {
	return world.Val{Word: link(who.Slot, version), Id: who.Id}
}

// slotOf and versionOf are the parts of a link's word.
func slotOf(word uint64) int    { return int(word << 1 >> 41) }
func versionOf(word uint64) int { return int(word << 24 >> 24) }

// lead is whom a link leads to.
func lead(v world.Val) soul.Who { return soul.Who{Slot: slotOf(v.Word), Id: v.Id} }

// ofInt is a word as an int, and whether it can be one.
func ofInt(word uint64) (int, bool) {
	if word>>63 == 1 {
		return 0, false
	}
	return int(word), true
}

// tall and limited are skip lists, list and hash are others.
func tall(slots, height int) api.Config { return limited(slots, height, maxEpoch) }
func limited(slots, height, limit int) api.Config {
	return api.Config{Kind: api.Skip, Slots: slots, Height: height, Limit: limit}
}
func list(slots int) api.Config {
	return api.Config{Kind: api.List, Slots: slots, Height: 1, Limit: maxEpoch}
}
func hash(slots int) api.Config {
	return api.Config{Kind: api.Hash, Slots: slots, Buckets: 3, Height: 1, Limit: maxEpoch}
}

// alone is layer 3's Alone, as the document says it.
func alone(c api.Config) int { return 64 * (c.Slots + 4) * (c.Height + 1) }

// insert, remove and has are ops of a skip list.
func insert(key uint64, level int) api.Op {
	return api.Op{Kind: api.Insert, Key: key, Level: level}
}
func remove(key uint64) api.Op { return api.Op{Kind: api.Delete, Key: key} }
func has(key uint64) api.Op    { return api.Op{Kind: api.Has, Key: key} }

// yes and no are answers, refused is that of an op that couldn't.
var (
	yes = api.Answer{Done: true}
	no  = api.Answer{}
)

func refused(err api.Errno) api.Answer { return api.Answer{Err: err} }

// kinds are the kinds of worlds.
var kinds = []string{"plain", "ghost", "ideal", "shade"}

// made is a new world of a kind, all of whose cells are 0.
func made(kind string) world.World {
	switch kind {
	case "ghost":
		return ghost.New()
	case "ideal":
		return ideal.New()
	case "shade":
		return shade.New(0, mark, link(1, 1), 5, link(2, 3), mark|link(1, 7), math.MaxUint64)
	}
	return world.New()
}

// numbers are numbers that look like any, always the same.
type numbers uint64

// below is the next one, below n.
func (x *numbers) below(n int) int {
	*x = *x*6364136223846793005 + 1442695040888963407
	return int(*x>>33) % n
}

// one is one of a list.
func one[T any](x *numbers, list []T) T { return list[x.below(len(list))] }

// access is one access, what was handed in, and what was answered.
type access struct {
	kind string
	at   world.At
	old  world.Val // of a swap
	new  world.Val // of a swap, and of a store
	n    uint64    // of an addition
	got  world.Val // of a load
	was  uint64    // of an addition
	done bool      // of a swap
}

// event is what of an access is the same in each world.
type event struct {
	kind string
	at   api.Place
	done bool
}

// watched is a world that keeps which accesses and births it was asked for, and how often it was asked for anything else.
type watched struct {
	world.World
	seen []access
	all  []event
	born []soul.Who
	asks int
}

func (w *watched) Load(a world.At) world.Val {
	got := w.World.Load(a)
	w.saw(access{kind: "load", at: a, got: got})
	return got
}
func (w *watched) Store(a world.At, v world.Val) {
	w.World.Store(a, v)
	w.saw(access{kind: "store", at: a, new: v})
}
func (w *watched) Swap(a world.At, old, new world.Val) bool {
	done := w.World.Swap(a, old, new)
	w.saw(access{kind: "swap", at: a, old: old, new: new, done: done})
	return done
}
func (w *watched) Add(a world.At, n uint64) uint64 {
	was := w.World.Add(a, n)
	w.saw(access{kind: "add", at: a, n: n, was: was})
	return was
}
func (w *watched) Born(slot int) int {
	id := w.World.Born(slot)
	w.born = append(w.born, soul.Who{Slot: slot, Id: id})
	return id
}
func (w *watched) Peek(p api.Place) uint64 { w.asks++; return w.World.Peek(p) }
func (w *watched) Count() cell.Count       { w.asks++; return w.World.Count() }
func (w *watched) saw(a access) {
	w.seen, w.all = append(w.seen, a), append(w.all, event{a.kind, a.at.Place, a.done})
}
func (w *watched) forget() { w.seen, w.born, w.asks = nil, nil, 0 }

// idle holds that nothing was asked for.
func (w *watched) idle(t *testing.T) {
	t.Helper()
	if len(w.seen) != 0 || len(w.born) != 0 || w.asks != 0 {
		t.Fatal("asked for", w.seen, w.born, w.asks)
	}
}

// asked holds the one access that was made, what was handed in alone.
func (w *watched) asked(t *testing.T, want access) {
	t.Helper()
	if len(w.seen) != 1 {
		t.Fatal("asked for", w.seen, "not", want)
	}
	a := w.seen[0]
	if got := (access{kind: a.kind, at: a.at, old: a.old, new: a.new, n: a.n}); got != want {
		t.Fatal("asked for", got, "not", want)
	}
	w.forget()
}

// The accesses, as they are handed in.
func loads(at world.At) access               { return access{kind: "load", at: at} }
func stores(at world.At, v world.Val) access { return access{kind: "store", at: at, new: v} }
func adds(at world.At, n uint64) access      { return access{kind: "add", at: at, n: n} }
func swaps(at world.At, old, new world.Val) access {
	return access{kind: "swap", at: at, old: old, new: new}
}

// epoch is the access of a checkpoint, and of a validation.
var epoch = loads(ref(epochCell))

// thread is a thread, what the chapters say of it, and its op that goes on, if any, beside what the tables say of that.
type thread struct {
	core   *core.Core
	epoch  int
	rolls  int
	own    []queue.Entry
	held   soul.Who // that of the slot 0: it holds none
	op     *skip.Op
	tell   *teller    // nil: none goes on
	answer api.Answer // of what ended last
}

// bench is some threads over one world.
type bench struct {
	t       *testing.T
	kind    string
	conf    api.Config
	w       *watched
	threads []*thread
	seen    map[string]int // how often each row went on to what
}

// benchOf is a bench of so many threads, over a new world of that kind, started.
func benchOf(t *testing.T, kind string, conf api.Config, threads int) *bench {
	b := &bench{t: t, kind: kind, conf: conf, w: &watched{World: made(kind)}, seen: map[string]int{}}
	for range threads {
		b.threads = append(b.threads, &thread{core: core.New(conf)})
	}
	b.put(ref(epochCell), 1)
	return b
}

// at is a bench of one thread, behind a checkpoint with that epoch.
func at(t *testing.T, kind string, conf api.Config, epoch uint64) (*bench, *thread) {
	b := benchOf(t, kind, conf, 1)
	b.put(ref(epochCell), epoch)
	b.check(b.threads[0])
	return b, b.threads[0]
}

// put is another word at a cell.
func (b *bench) put(a world.At, word uint64) { b.w.World.Store(a, val(word)) }

// check is a checkpoint of a thread.
func (b *bench) check(th *thread) {
	th.core.Check(b.w)
	th.epoch, _ = ofInt(b.w.World.Peek(epochCell))
	b.w.forget()
}

// hold: a thread holds a slot, who was born in it last.
func (b *bench) hold(th *thread, who soul.Who) {
	b.t.Helper()
	if err := th.core.Hold(who); err != api.OK {
		b.t.Fatal(b.kind, "can't hold", who, err)
	}
	th.held = who
}

// born is a new slot that a thread holds, for a key.
func (b *bench) born(th *thread, slot int, key uint64) soul.Who {
	b.t.Helper()
	who := soul.Who{Slot: slot, Id: b.w.World.Born(slot)}
	b.put(by(who, keyPart), key)
	b.put(by(who, statePart), 0)
	b.hold(th, who)
	return who
}

// push: entries are a thread's own.
func (b *bench) push(th *thread, entries ...queue.Entry) {
	th.core.Queue().Push(entries...)
	th.own = append(th.own, entries...)
}

// begin begins an op of a thread, which makes no access.
func (b *bench) begin(th *thread, o api.Op) *skip.Op {
	b.t.Helper()
	b.w.forget()
	th.op = skip.New(th.core, o)
	if th.op == nil {
		b.t.Fatal(b.kind, b.conf, "there is no", o)
	}
	th.tell = &teller{b: b, th: th, op: o, row: "c"}
	b.w.idle(b.t)
	b.same(th)
	return th.op
}

// step makes the next step of a thread's op, and holds it against what the tables say: just one access, that one, how it stands, what the thread has, and what is answered.
func (b *bench) step(th *thread) core.State {
	b.w.forget()
	row := th.tell.name()
	state := th.op.Step(b.w)
	if len(b.w.seen) != 1 || b.w.asks != 0 {
		b.t.Fatal(b.kind, b.conf, row, "asked for", b.w.seen, b.w.asks)
	}
	want := th.tell.step(b.w.seen[0], b.w.born)
	if state != want {
		b.t.Fatal(b.kind, b.conf, row, "is", name(state), "not", name(want), b.w.seen)
	}
	if state == core.Busy {
		b.seen[row+", "+th.tell.name()]++
	} else {
		b.seen[row+", "+name(state)]++
	}
	b.same(th)
	if state != core.Busy {
		b.ended(th)
	}
	return state
}

// same holds what a thread has, and its op's answer, against what the chapters say.
func (b *bench) same(th *thread) {
	if th.core.Epoch() != th.epoch || th.core.Rolls() != th.rolls || th.core.Conf() != b.conf {
		b.t.Fatal(b.kind, b.conf, th.tell.name(), "the epoch is", th.core.Epoch(), "not", th.epoch, "the rolls", th.core.Rolls(), "not", th.rolls)
	}
	if who, holds := th.core.Held(); who != th.held || holds != (th.held.Slot != 0) {
		b.t.Fatal(b.kind, b.conf, th.tell.name(), "what is held is", who, holds, "not", th.held)
	}
	if got := th.core.Queue().List(); !slices.Equal(got, th.own) {
		b.t.Fatal(b.kind, b.conf, th.tell.name(), "the queue is", got, "not", th.own)
	}
	if th.op.Answer() != th.tell.answer {
		b.t.Fatal(b.kind, b.conf, th.tell.name(), "the answer is", th.op.Answer(), "not", th.tell.answer)
	}
}

// ended: an op that is Done makes no access any more, and has changed nothing.
func (b *bench) ended(th *thread) {
	th.answer = th.tell.answer
	for range 2 {
		b.w.forget()
		if got := th.op.Step(b.w); got != core.Done {
			b.t.Fatal(b.kind, b.conf, "behind Done is", name(got))
		}
		b.w.idle(b.t)
		b.same(th)
	}
	th.tell, th.op = nil, nil
}

// steps makes so many steps, each of which is Busy.
func (b *bench) steps(th *thread, n int) {
	b.t.Helper()
	for i := range n {
		if state := b.step(th); state != core.Busy {
			b.t.Fatal(b.kind, b.conf, i, name(state))
		}
	}
}

// ends makes the last one of so many steps, behind which the op is Done.
func (b *bench) ends(th *thread, n int) {
	b.t.Helper()
	b.steps(th, n-1)
	if state := b.step(th); state != core.Done {
		b.t.Fatal(b.kind, b.conf, name(state))
	}
}

// till makes steps till a row is the next one.
func (b *bench) till(th *thread, row string) {
	b.t.Helper()
	for range 10000 {
		if th.tell == nil {
			break
		}
		if th.tell.name() == row {
			return
		}
		b.step(th)
	}
	b.t.Fatal(b.kind, b.conf, "never comes to", row)
}

// at holds which row of a thread's op is the next one.
func (b *bench) at(th *thread, row string) {
	b.t.Helper()
	if got := th.tell.name(); got != row {
		b.t.Fatal(b.kind, b.conf, "goes on at", got, "not", row)
	}
}

// run makes steps of a thread's op till it is Done, and answers how many there were.
func (b *bench) run(th *thread) int {
	b.t.Helper()
	for n := 1; n <= 100000; n++ {
		if b.step(th) == core.Done {
			return n
		}
	}
	b.t.Fatal(b.kind, b.conf, "no end")
	return 0
}

// ask makes an op of a thread that goes on alone: it ends within Alone steps, and answers that.
func (b *bench) ask(th *thread, o api.Op, want api.Answer) int {
	b.t.Helper()
	b.begin(th, o)
	n := b.run(th)
	if n > alone(b.conf) || th.answer != want {
		b.t.Fatal(b.kind, b.conf, o, "ends behind", n, "and answers", th.answer, "not", want)
	}
	return n
}

// name is a state's.
func name(s core.State) string {
	return []string{"Busy", "Done", "Again", "Full", "Late"}[s]
}

// item is a slot of a skip list: where it stands, its key, at how many levels it is linked, from which one on it is marked (from top on at none), its State, and who it is, once it is laid.
type item struct {
	slot  int
	key   uint64
	top   int
	from  int
	state uint64
	id    int
}

// tower is one that is marked nowhere, and linked by who put it in at all its levels.
func tower(slot int, key uint64, top int) item {
	return item{slot: slot, key: key, top: top, from: top, state: 1}
}

// who is who it is.
func (i item) who() soul.Who { return soul.Who{Slot: i.slot, Id: i.id} }

// isOut is whether it is marked at a level.
func (i item) isOut(level int) bool { return level >= i.from && level < i.top }

// lay lays a skip list whose links have that version, and answers its items with who they are, and of each level each one's link there.
func (b *bench) lay(version int, items ...item) ([]item, [][]world.Val) {
	items = slices.Clone(items)
	for i := range items {
		it := &items[i]
		it.id = b.w.World.Born(it.slot)
		b.put(by(it.who(), keyPart), it.key)
		b.put(by(it.who(), topPart), uint64(it.top))
		b.put(by(it.who(), statePart), it.state)
	}
	var links [][]world.Val
	for l := range b.conf.Height {
		ahead, row := val(link(0, version)), make([]world.Val, len(items))
		for i := len(items) - 1; i >= 0; i-- {
			it := items[i]
			if l >= it.top {
				continue
			}
			if it.isOut(l) {
				ahead.Word |= mark
			}
			b.w.World.Store(next(it.who(), l), ahead)
			row[i], ahead = ahead, to(it.who(), version)
		}
		b.w.World.Store(ref(root(l)), ahead)
		links = append(links, row)
	}
	return items, links
}

// linked are the slots that the root of a level leads to, in order.
func (b *bench) linked(level int) []int {
	var all []int
	for s := slotOf(b.w.World.Peek(root(level))); s != 0; s = slotOf(b.w.World.Peek(part(s, nextPart+level))) {
		if all = append(all, s); len(all) > 1000 {
			b.t.Fatal(b.kind, b.conf, "the level", level, "goes in a circle")
		}
	}
	return all
}

// isOut is whether a slot's link at a level has a mark.
func (b *bench) isOut(slot, level int) bool {
	return b.w.World.Peek(part(slot, nextPart+level)) >= mark
}

// live are the slots without a mark that a level's root leads to, in order.
func (b *bench) live(level int) []int {
	return slices.DeleteFunc(b.linked(level), func(s int) bool { return b.isOut(s, level) })
}

// isLinked is whether a root leads to a slot, at any level.
func (b *bench) isLinked(slot int) bool {
	for l := range b.conf.Height {
		if slices.Contains(b.linked(l), slot) {
			return true
		}
	}
	return false
}

// keys are those of the slots without marks at a level, in order.
func (b *bench) keys(level int) []uint64 {
	var all []uint64
	for _, s := range b.live(level) {
		all = append(all, b.w.World.Peek(part(s, keyPart)))
	}
	return all
}

// has holds that the skip list has just these keys, in order.
func (b *bench) has(keys ...uint64) {
	b.t.Helper()
	if got := b.keys(0); !slices.Equal(got, keys) {
		b.t.Fatal(b.kind, b.conf, "the skip list has", got, "not", keys)
	}
}

// levels holds which slots are linked at each level, in order.
func (b *bench) levels(want ...[]int) {
	b.t.Helper()
	for l := range b.conf.Height {
		if got := b.linked(l); !slices.Equal(got, want[l]) {
			b.t.Fatal(b.kind, b.conf, "at the level", l, "there are", got, "not", want[l])
		}
	}
}

// clean holds that nothing stale went anywhere.
func (b *bench) clean() {
	b.t.Helper()
	if f, is := b.w.World.(interface{ Faults() int }); is && f.Faults() != 0 {
		b.t.Fatal(b.kind, "has faults", f.Faults())
	}
}

// count adds what was seen.
func (b *bench) count(seen map[string]int) {
	for s, n := range b.seen {
		seen[s] += n
	}
}

// came holds that each of these was come to.
func came(t *testing.T, seen map[string]int, to ...string) {
	t.Helper()
	for _, s := range to {
		if seen[s] == 0 {
			t.Error("no row came to", s)
		}
	}
}
