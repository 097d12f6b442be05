package alloc_test

import (
	"slices"
	"testing"

	"revenant/alloc"
	"revenant/api"
	"revenant/cell"
	"revenant/core"
	"revenant/ghost"
	"revenant/ideal"
	"revenant/queue"
	"revenant/shade"
	"revenant/soul"
	"revenant/world"
)

// The limits, as the document says them.
const (
	maxSlots = 1<<23 - 1
	maxEpoch = 1<<40 - 1
)

// The cells that all share, and the parts of a slot, as layer 5 numbers them.
var (
	epochCell = api.Place{Kind: 1}
	poolCell  = api.Place{Kind: 2}
	freshCell = api.Place{Kind: 3}
)

const (
	birthPart, retirePart, chainPart, keyPart, valPart, topPart, statePart = 0, 1, 2, 3, 4, 5, 6
)

// part is a slot's cell.
func part(slot, n int) api.Place { return api.Place{Kind: 5, Slot: slot, Part: n} }

// ref is a reference to a cell that is nobody's.
func ref(p api.Place) world.At { return world.At{Place: p} }

// by is a reference to a slot's part, by who it is.
func by(who soul.Who, n int) world.At { return world.At{Place: part(who.Slot, n), Id: who.Id} }

// val is a word that leads to nobody.
func val(word uint64) world.Val { return world.Val{Word: word} }

// link is the word of a link without a mark.
func link(slot, version int) uint64 { return uint64(slot)<<40 | uint64(version) }

// slotOf and versionOf are the parts of a link's word.
func slotOf(word uint64) int    { return int(word << 1 >> 41) }
func versionOf(word uint64) int { return int(word << 24 >> 24) }

// ofInt is a word as an int, 0 if it can't be.
func ofInt(word uint64) int {
	if word>>63 == 1 {
		return 0
	}
	return int(word)
}

// list, hash and skip are structures.
func list(slots, limit int) api.Config {
	return api.Config{Kind: api.List, Slots: slots, Height: 1, Limit: limit}
}
func hash(slots, limit int) api.Config {
	return api.Config{Kind: api.Hash, Slots: slots, Buckets: 3, Height: 1, Limit: limit}
}
func skip(slots, limit int) api.Config {
	return api.Config{Kind: api.Skip, Slots: slots, Height: 4, Limit: limit}
}

// each is one structure of each kind.
func each(slots, limit int) []api.Config {
	return []api.Config{list(slots, limit), hash(slots, limit), skip(slots, limit)}
}

// kinds are the kinds of worlds.
var kinds = []string{"plain", "ghost", "ideal", "shade"}

// made is a new world of a kind, all of whose cells are 0.
func made(kind string) world.World {
	switch kind {
	case "ghost":
		return ghost.New()
	case "ideal":
		return ideal.New()
	case "shade":
		return shade.New(0, 1<<63, link(1, 1), link(2, 3), 1<<63|link(1, 7), 1<<64-1)
	}
	return world.New()
}

// numbers are numbers that look like any, always the same.
type numbers uint64

// below is the next one, below n.
func (x *numbers) below(n int) int {
	*x = *x*6364136223846793005 + 1442695040888963407
	return int(*x>>33) % n
}

// one is one of a list.
func one[T any](x *numbers, list []T) T { return list[x.below(len(list))] }

// access is one access, what was handed in, and what was answered.
type access struct {
	kind string
	at   world.At
	old  world.Val // of a swap
	new  world.Val // of a swap, and of a store
	n    uint64    // of an addition
	got  world.Val // of a load
	was  uint64    // of an addition
	done bool      // of a swap
}

// watched is a world that keeps which accesses and births it was asked for, and how often it was asked for anything else.
type watched struct {
	world.World
	seen []access
	born []soul.Who
	asks int
}

func (w *watched) Load(a world.At) world.Val {
	got := w.World.Load(a)
	w.seen = append(w.seen, access{kind: "load", at: a, got: got})
	return got
}
func (w *watched) Store(a world.At, v world.Val) {
	w.World.Store(a, v)
	w.seen = append(w.seen, access{kind: "store", at: a, new: v})
}
func (w *watched) Swap(a world.At, old, new world.Val) bool {
	done := w.World.Swap(a, old, new)
	w.seen = append(w.seen, access{kind: "swap", at: a, old: old, new: new, done: done})
	return done
}
func (w *watched) Add(a world.At, n uint64) uint64 {
	was := w.World.Add(a, n)
	w.seen = append(w.seen, access{kind: "add", at: a, n: n, was: was})
	return was
}
func (w *watched) Born(slot int) int {
	id := w.World.Born(slot)
	w.born = append(w.born, soul.Who{Slot: slot, Id: id})
	return id
}
func (w *watched) Peek(p api.Place) uint64 { w.asks++; return w.World.Peek(p) }
func (w *watched) Count() cell.Count       { w.asks++; return w.World.Count() }

// forget is as if nothing had been asked for yet.
func (w *watched) forget() { w.seen, w.born, w.asks = nil, nil, 0 }

// idle holds that nothing was asked for.
func (w *watched) idle(t *testing.T) {
	t.Helper()
	if len(w.seen) != 0 || len(w.born) != 0 || w.asks != 0 {
		t.Fatal("asked for", w.seen, w.born, w.asks)
	}
}

// machine is any of the chapter's machines.
type machine interface {
	Step(w world.World) core.State
}

// thread is a thread, what the chapter says of it, and its machine that goes on, if any, beside what the tables say of that.
type thread struct {
	core    *core.Core
	epoch   int
	own     []queue.Entry
	held    soul.Who
	holds   bool
	machine machine
	tell    *teller
}

// trace is what came of a step: its access, and the state.
type trace struct {
	kind  string
	at    api.Place
	done  bool
	state core.State
}

// bench is some threads over one world, and what the chapter says of its words.
type bench struct {
	t       *testing.T
	kind    string
	conf    api.Config
	w       *watched
	words   map[api.Place]uint64 // those of the cells that all share, and Retire and Chain of slots
	threads []*thread
	seen    map[string]int // how often each row went on to what
	trace   []trace        // what came of each New and each step
}

// benchOf is a bench of so many threads, over a new world of that kind, started.
func benchOf(t *testing.T, kind string, conf api.Config, threads int) *bench {
	b := &bench{t: t, kind: kind, conf: conf, w: &watched{World: made(kind)}, words: map[api.Place]uint64{}, seen: map[string]int{}}
	for range threads {
		b.threads = append(b.threads, &thread{core: core.New(conf)})
	}
	b.set(epochCell, 1)
	return b
}

// set is another word at a cell that is nobody's, or nobody's yet.
func (b *bench) set(p api.Place, word uint64) {
	b.w.World.Store(ref(p), val(word))
	b.words[p] = word
}

// check is a checkpoint of a thread.
func (b *bench) check(th *thread) {
	th.core.Check(b.w)
	th.epoch = ofInt(b.words[epochCell])
	b.w.forget()
	b.same()
}

// push: entries are a thread's own.
func (b *bench) push(th *thread, list ...queue.Entry) {
	th.core.Queue().Push(list...)
	th.own = append(th.own, list...)
}

// take: a thread holds its slot no more.
func (b *bench) take(th *thread) soul.Who {
	who, holds := th.core.Take()
	if !holds || who != th.held {
		b.t.Fatal("Take", who, holds, th.held)
	}
	th.held, th.holds = soul.Who{}, false
	return who
}

// drop: what a thread holds is its own, seen by nobody.
func (b *bench) drop(th *thread) {
	th.core.Drop()
	th.own = append(th.own, queue.Entry{Slot: th.held.Slot, Id: th.held.Id})
	th.held, th.holds = soul.Who{}, false
}

// alloc begins an Alloc of a thread, and answers how it stands: Busy if one goes on now.
func (b *bench) alloc(th *thread, o api.Op) core.State {
	tell := &teller{b: b, th: th, op: o}
	want := core.Done
	if !th.holds {
		want = tell.decide()
	}
	b.w.forget()
	a, state := alloc.New(th.core, o)
	b.w.idle(b.t)
	if state != want || (a == nil) != (want != core.Busy) {
		b.t.Fatal(b.kind, b.conf, "New", a, state, "not", want, th)
	}
	if a != nil {
		th.machine, th.tell = a, tell
	}
	b.seen["new "+tell.row+name(state)]++
	b.trace = append(b.trace, trace{kind: "new", state: state})
	b.same()
	return state
}

// retire begins a Retire of a thread.
func (b *bench) retire(th *thread, who soul.Who) {
	b.w.forget()
	th.machine = alloc.NewRetire(th.core, who)
	th.tell = &teller{b: b, th: th, row: "r1", who: who}
	b.w.idle(b.t)
	b.same()
}

// give begins a Give of a thread.
func (b *bench) give(th *thread) *alloc.Give {
	b.w.forget()
	g := alloc.NewGive(th.core)
	th.machine, th.tell = g, &teller{b: b, th: th, row: "c", give: g}
	b.w.idle(b.t)
	b.same()
	return g
}

// step makes the next step of a thread's machine, and holds it against what the tables say: just one access, that one, and how it stands.
func (b *bench) step(th *thread) core.State {
	b.w.forget()
	row := th.tell.row
	state := th.machine.Step(b.w)
	if len(b.w.seen) != 1 || b.w.asks != 0 {
		b.t.Fatal(b.kind, b.conf, row, "asked for", b.w.seen, b.w.asks)
	}
	want := th.tell.step(b.w.seen[0], b.w.born)
	if state != want {
		b.t.Fatal(b.kind, b.conf, row, "is", name(state), "not", name(want), b.w.seen)
	}
	next := name(state)
	if state == core.Busy {
		next = th.tell.row
	} else {
		th.machine = nil
	}
	b.seen[row+" "+next]++
	a := b.w.seen[0]
	b.trace = append(b.trace, trace{a.kind, a.at.Place, a.done, state})
	b.same()
	return state
}

// run makes steps of a thread's machine till it ends, and answers how.
func (b *bench) run(th *thread) core.State {
	for range 1000 {
		if state := b.step(th); state != core.Busy {
			return state
		}
	}
	b.t.Fatal(b.kind, b.conf, "a machine doesn't end")
	return core.Busy
}

// same holds the words, and what each thread has, against what the chapter says.
func (b *bench) same() {
	for p, word := range b.words {
		if got := b.w.World.Peek(p); got != word {
			b.t.Fatal(b.kind, b.conf, p, "is", got, "not", word)
		}
	}
	for i, th := range b.threads {
		if got := th.core.Queue().List(); !slices.Equal(got, th.own) {
			b.t.Fatal(b.kind, b.conf, "the queue of", i, "is", got, "not", th.own)
		}
		if who, holds := th.core.Held(); who != th.held || holds != th.holds {
			b.t.Fatal(b.kind, b.conf, i, "holds", who, holds, "not", th.held, th.holds)
		}
		if th.core.Epoch() != th.epoch || th.core.Rolls() != 0 {
			b.t.Fatal(b.kind, b.conf, "the epoch of", i, "is", th.core.Epoch(), "not", th.epoch, th.core.Rolls())
		}
		if th.tell != nil && th.tell.give != nil && th.tell.give.Given() != th.tell.given {
			b.t.Fatal(b.kind, b.conf, i, "has given", th.tell.give.Given(), "not", th.tell.given)
		}
	}
}

// name is a state's.
func name(s core.State) string {
	return []string{"Busy", "Done", "Again", "Full", "Late"}[s]
}

// teller tells what the chapter's tables say of one machine, row by row.
type teller struct {
	b     *bench
	th    *thread
	row   string
	op    api.Op
	who   soul.Who
	h     world.Val
	n     world.Val
	r     world.Val
	give  *alloc.Give
	given int
}

// step tells the row's access, by the one that was made, and how the machine stands behind it.
func (x *teller) step(a access, born []soul.Who) core.State {
	if (x.row == "b") != (len(born) == 1) || len(born) > 1 {
		x.b.t.Fatal(x.row, "births", born)
	}
	switch x.row {
	case "a1", "f1", "p1", "p2", "p3", "p4":
		return x.come(a)
	case "r1", "r2":
		return x.retire(a)
	case "c", "g1", "g2", "g3":
		return x.bring(a)
	}
	return x.birth(a, born)
}

// to: a row is the next one.
func (x *teller) to(row string) core.State {
	x.row = row
	return core.Busy
}

// decide is what an Alloc does behind a row, or in New.
func (x *teller) decide() core.State {
	if len(x.th.own) == 0 {
		return x.to("f1")
	}
	if re := x.th.own[0].Retired; re >= x.th.epoch {
		if x.th.epoch >= x.b.conf.Limit {
			return core.Late
		}
		return x.to("a1")
	}
	return x.to("b")
}

// come tells the rows of an Alloc ahead of the birth.
func (x *teller) come(a access) core.State {
	h := soul.Who{Slot: slotOf(x.h.Word), Id: x.h.Id}
	switch x.row {
	case "a1":
		x.swap(a, ref(epochCell), val(uint64(x.th.epoch)), val(uint64(x.th.epoch)+1))
		return core.Again
	case "f1":
		if t := x.add(a, ref(freshCell)); t < uint64(x.b.conf.Slots) {
			x.th.own = append(x.th.own, queue.Entry{Slot: int(t) + 1})
			return x.decide()
		}
		return x.to("p1")
	case "p1":
		x.h = x.load(a, ref(poolCell))
		if slotOf(x.h.Word) == 0 {
			return core.Full
		}
		if versionOf(x.h.Word) >= x.b.conf.Limit {
			return core.Late
		}
		return x.to("p2")
	case "p2":
		x.n = x.load(a, by(h, chainPart))
		return x.to("p3")
	case "p3":
		x.r = x.load(a, by(h, retirePart))
		return x.to("p4")
	}
	rest := world.Val{Word: link(slotOf(x.n.Word), versionOf(x.h.Word)+1), Id: x.n.Id, Stale: x.n.Stale}
	if !x.swap(a, ref(poolCell), x.h, rest) {
		return x.to("p1")
	}
	x.th.own = append(x.th.own, queue.Entry{Slot: h.Slot, Retired: ofInt(x.r.Word), Id: h.Id})
	return x.decide()
}

// birth tells the rows of an Alloc from the birth on.
func (x *teller) birth(a access, born []soul.Who) core.State {
	switch x.row {
	case "b":
		if born[0].Slot != x.th.own[0].Slot {
			x.b.t.Fatal("born is", born[0], "not the head of", x.th.own)
		}
		x.who, x.th.held, x.th.holds = born[0], born[0], true
		x.th.own = x.th.own[1:]
		x.store(a, by(x.who, birthPart), val(uint64(x.th.epoch)))
		return x.to("retire")
	case "retire":
		x.store(a, by(x.who, retirePart), val(0))
		return x.to("key")
	case "key":
		x.store(a, by(x.who, keyPart), val(x.op.Key))
		if x.b.conf.Kind == api.Hash {
			return x.to("val")
		}
		if x.b.conf.Kind == api.Skip {
			return x.to("top")
		}
	case "val":
		x.store(a, by(x.who, valPart), val(x.op.Val))
	case "top":
		x.store(a, by(x.who, topPart), val(uint64(x.op.Level)))
		return x.to("state")
	case "state":
		x.store(a, by(x.who, statePart), val(0))
	}
	return core.Done
}

// retire tells the rows of a Retire.
func (x *teller) retire(a access) core.State {
	if x.row == "r1" {
		x.r = x.load(a, ref(epochCell))
		return x.to("r2")
	}
	x.store(a, by(x.who, retirePart), val(x.r.Word))
	x.th.own = append(x.th.own, queue.Entry{Slot: x.who.Slot, Retired: ofInt(x.r.Word), Id: x.who.Id})
	return core.Done
}

// bring tells the rows of a Give.
func (x *teller) bring(a access) core.State {
	switch x.row {
	case "c":
		x.th.epoch = ofInt(x.load(a, ref(epochCell)).Word)
		if len(x.th.own) == 0 {
			return core.Done
		}
		return x.to("g1")
	case "g1":
		x.h = x.load(a, ref(poolCell))
		if versionOf(x.h.Word) >= x.b.conf.Limit {
			return core.Late
		}
		return x.to("g2")
	}
	s := soul.Who{Slot: x.th.own[0].Slot, Id: x.th.own[0].Id}
	if x.row == "g2" {
		x.store(a, by(s, chainPart), world.Val{Word: link(slotOf(x.h.Word), 0), Id: x.h.Id})
		return x.to("g3")
	}
	if x.swap(a, ref(poolCell), x.h, world.Val{Word: link(s.Slot, versionOf(x.h.Word)+1), Id: s.Id}) {
		x.th.own = x.th.own[1:]
		x.given++
		if len(x.th.own) == 0 {
			return core.Done
		}
	}
	return x.to("g1")
}

// must is that the access was of a kind, and by that reference.
func (x *teller) must(a access, kind string, at world.At) {
	if a.kind != kind || a.at != at {
		x.b.t.Fatal(x.b.kind, x.b.conf, x.row, "made", a, "not a", kind, "of", at)
	}
}

// load is what was loaded there: the word that is there, unless it was stale.
func (x *teller) load(a access, at world.At) world.Val {
	x.must(a, "load", at)
	if !a.got.Stale && a.got.Word != x.b.words[at.Place] {
		x.b.t.Fatal(x.b.kind, x.b.conf, x.row, "loaded", a.got, "not", x.b.words[at.Place])
	}
	if a.got.Stale {
		x.b.seen["stale "+x.row]++
	}
	return a.got
}

// store is that this was stored there.
func (x *teller) store(a access, at world.At, v world.Val) {
	x.must(a, "store", at)
	if a.new != v {
		x.b.t.Fatal(x.b.kind, x.b.conf, x.row, "stored", a.new, "not", v)
	}
	if at.Place.Part == retirePart || at.Place.Part == chainPart {
		x.b.words[at.Place] = v.Word
	}
}

// swap is that this was swapped there, and whether it was done.
func (x *teller) swap(a access, at world.At, old, new world.Val) bool {
	x.must(a, "swap", at)
	if a.old != old || a.new != new || a.done != (x.b.words[at.Place] == old.Word) {
		x.b.t.Fatal(x.b.kind, x.b.conf, x.row, "swapped", a, "not", old, new, x.b.words[at.Place])
	}
	if !a.done {
		x.b.seen["failed "+x.row]++
		return false
	}
	x.b.words[at.Place] = new.Word
	return true
}

// add is that 1 was added there, and what was there.
func (x *teller) add(a access, at world.At) uint64 {
	x.must(a, "add", at)
	if a.n != 1 || a.was != x.b.words[at.Place] {
		x.b.t.Fatal(x.b.kind, x.b.conf, x.row, "added", a, "not 1 to", x.b.words[at.Place])
	}
	x.b.words[at.Place]++
	return a.was
}
