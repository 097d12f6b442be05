package chain_test

import (
	"slices"
	"testing"

	"revenant/api"
	"revenant/cell"
	"revenant/chain"
	"revenant/core"
	"revenant/ghost"
	"revenant/ideal"
	"revenant/queue"
	"revenant/seek"
	"revenant/shade"
	"revenant/soul"
	"revenant/world"
)

// The limits, as the document says them.
const (
	maxSlots = 1<<23 - 1
	maxEpoch = 1<<40 - 1
)

// The cells that all share, and the list's root.
var (
	epochCell = api.Place{Kind: 1}
	poolCell  = api.Place{Kind: 2}
	freshCell = api.Place{Kind: 3}
	rootCell  = api.Place{Kind: 4}
)

// The parts of a slot, as layer 5 numbers them.
const (
	birthPart, retirePart, chainPart, keyPart, nextPart = 0, 1, 2, 3, 7
)

// mark is a link's.
const mark = 1 << 63

// part is a slot's cell.
func part(slot, n int) api.Place { return api.Place{Kind: 5, Slot: slot, Part: n} }

// ref is a reference to a cell that is nobody's.
func ref(p api.Place) world.At { return world.At{Place: p} }

// by is a reference to a slot's part, by who it is.
func by(who soul.Who, n int) world.At { return world.At{Place: part(who.Slot, n), Id: who.Id} }

// val is a word that leads to nobody.
func val(word uint64) world.Val { return world.Val{Word: word} }

// link is the word of a link without a mark, 0 if there is none.
func link(slot, version int) uint64 {
	if slot < 0 || slot > maxSlots || version < 0 || version > maxEpoch {
		return 0
	}
	return uint64(slot)<<40 | uint64(version)
}

// marked is the one with a mark.
func marked(slot, version int) uint64 {
	if slot < 0 || slot > maxSlots || version < 0 || version > maxEpoch {
		return 0
	}
	return mark | link(slot, version)
}

// slotOf and versionOf are the parts of a link's word.
func slotOf(word uint64) int    { return int(word << 1 >> 41) }
func versionOf(word uint64) int { return int(word << 24 >> 24) }

// lead is whom a link leads to.
func lead(v world.Val) soul.Who { return soul.Who{Slot: slotOf(v.Word), Id: v.Id} }

// ofInt is a word as an int, and whether it can be one.
func ofInt(word uint64) (int, bool) {
	if word>>63 == 1 {
		return 0, false
	}
	return int(word), true
}

// list, hash and skip are structures.
func list(slots int) api.Config { return limited(slots, maxEpoch) }
func limited(slots, limit int) api.Config {
	return api.Config{Kind: api.List, Slots: slots, Height: 1, Limit: limit}
}
func hash(slots int) api.Config {
	return api.Config{Kind: api.Hash, Slots: slots, Buckets: 3, Height: 1, Limit: maxEpoch}
}
func skip(slots int) api.Config {
	return api.Config{Kind: api.Skip, Slots: slots, Height: 4, Limit: maxEpoch}
}

// alone is layer 3's Alone, as the document says it.
func alone(c api.Config) int { return 64 * (c.Slots + 4) * (c.Height + 1) }

// insert, remove and has are ops of a list.
func insert(key uint64) api.Op { return api.Op{Kind: api.Insert, Key: key} }
func remove(key uint64) api.Op { return api.Op{Kind: api.Delete, Key: key} }
func has(key uint64) api.Op    { return api.Op{Kind: api.Has, Key: key} }

// yes is that of an op that did what it was to, refused one of an op that couldn't.
var yes = api.Answer{Done: true}

func refused(err api.Errno) api.Answer { return api.Answer{Err: err} }

// kinds are the kinds of worlds.
var kinds = []string{"plain", "ghost", "ideal", "shade"}

// made is a new world of a kind, all of whose cells are 0.
func made(kind string) world.World {
	switch kind {
	case "ghost":
		return ghost.New()
	case "ideal":
		return ideal.New()
	case "shade":
		return shade.New(0, mark, link(1, 1), 5, link(2, 3), mark|link(1, 7), 1<<64-1)
	}
	return world.New()
}

// numbers are numbers that look like any, always the same.
type numbers uint64

// below is the next one, below n.
func (x *numbers) below(n int) int {
	*x = *x*6364136223846793005 + 1442695040888963407
	return int(*x>>33) % n
}

// one is one of a list.
func one[T any](x *numbers, list []T) T { return list[x.below(len(list))] }

// access is one access, what was handed in, and what was answered.
type access struct {
	kind string
	at   world.At
	old  world.Val // of a swap
	new  world.Val // of a swap, and of a store
	n    uint64    // of an addition
	got  world.Val // of a load
	was  uint64    // of an addition
	done bool      // of a swap
}

// event is what of an access is the same in each world.
type event struct {
	kind string
	at   api.Place
	done bool
}

// watched is a world that keeps which accesses and births it was asked for, and how often it was asked for anything else.
type watched struct {
	world.World
	seen []access
	all  []event
	born []soul.Who
	asks int
}

func (w *watched) Load(a world.At) world.Val {
	got := w.World.Load(a)
	w.saw(access{kind: "load", at: a, got: got})
	return got
}
func (w *watched) Store(a world.At, v world.Val) {
	w.World.Store(a, v)
	w.saw(access{kind: "store", at: a, new: v})
}
func (w *watched) Swap(a world.At, old, new world.Val) bool {
	done := w.World.Swap(a, old, new)
	w.saw(access{kind: "swap", at: a, old: old, new: new, done: done})
	return done
}
func (w *watched) Add(a world.At, n uint64) uint64 {
	was := w.World.Add(a, n)
	w.saw(access{kind: "add", at: a, n: n, was: was})
	return was
}
func (w *watched) Born(slot int) int {
	id := w.World.Born(slot)
	w.born = append(w.born, soul.Who{Slot: slot, Id: id})
	return id
}
func (w *watched) Peek(p api.Place) uint64 { w.asks++; return w.World.Peek(p) }
func (w *watched) Count() cell.Count       { w.asks++; return w.World.Count() }
func (w *watched) saw(a access) {
	w.seen, w.all = append(w.seen, a), append(w.all, event{a.kind, a.at.Place, a.done})
}
func (w *watched) forget() { w.seen, w.born, w.asks = nil, nil, 0 }

// idle holds that nothing was asked for.
func (w *watched) idle(t *testing.T) {
	t.Helper()
	if len(w.seen) != 0 || len(w.born) != 0 || w.asks != 0 {
		t.Fatal("asked for", w.seen, w.born, w.asks)
	}
}

// asked holds the one access that was made, what was handed in alone.
func (w *watched) asked(t *testing.T, want access) {
	t.Helper()
	if len(w.seen) != 1 {
		t.Fatal("asked for", w.seen, "not", want)
	}
	a := w.seen[0]
	if got := (access{kind: a.kind, at: a.at, old: a.old, new: a.new, n: a.n}); got != want {
		t.Fatal("asked for", got, "not", want)
	}
	w.forget()
}

// The accesses, as they are handed in.
func loads(at world.At) access               { return access{kind: "load", at: at} }
func stores(at world.At, v world.Val) access { return access{kind: "store", at: at, new: v} }
func adds(at world.At, n uint64) access      { return access{kind: "add", at: at, n: n} }
func swaps(at world.At, old, new world.Val) access {
	return access{kind: "swap", at: at, old: old, new: new}
}

// epoch is the access of a checkpoint, and of a validation.
var epoch = loads(ref(epochCell))

// machine is any of the chapter's machines, or a search.
type machine interface {
	Step(w world.World) core.State
}

// thread is a thread, what the chapters say of it, and its machine that goes on, if any, beside what the tables say of that.
type thread struct {
	core    *core.Core
	epoch   int
	rolls   int
	own     []queue.Entry
	held    soul.Who // that of the slot 0: it holds none
	machine machine
	op      *chain.Op    // nil: a machine that answers nothing
	tell    *teller      // nil: none goes on
	answer  api.Answer   // of what ended last
	search  *seek.Search // one that is made alone
	lane    *seek.Lane   // where the last such one ended
	spot    spot         // likewise, as the table says
}

// bench is some threads over one world.
type bench struct {
	t       *testing.T
	kind    string
	conf    api.Config
	w       *watched
	threads []*thread
	seen    map[string]int // how often each row went on to what
}

// benchOf is a bench of so many threads, over a new world of that kind, started.
func benchOf(t *testing.T, kind string, conf api.Config, threads int) *bench {
	b := &bench{t: t, kind: kind, conf: conf, w: &watched{World: made(kind)}, seen: map[string]int{}}
	for range threads {
		b.threads = append(b.threads, &thread{core: core.New(conf)})
	}
	b.put(ref(epochCell), 1)
	return b
}

// at is a bench of one thread, behind a checkpoint with that epoch.
func at(t *testing.T, kind string, conf api.Config, epoch uint64) (*bench, *thread) {
	b := benchOf(t, kind, conf, 1)
	b.put(ref(epochCell), epoch)
	b.check(b.threads[0])
	return b, b.threads[0]
}

// put is another word at a cell.
func (b *bench) put(a world.At, word uint64) { b.w.World.Store(a, val(word)) }

// check is a checkpoint of a thread.
func (b *bench) check(th *thread) {
	th.core.Check(b.w)
	th.epoch, _ = ofInt(b.w.World.Peek(epochCell))
	b.w.forget()
}

// hold: a thread holds a slot, who was born in it last.
func (b *bench) hold(th *thread, who soul.Who) {
	b.t.Helper()
	if err := th.core.Hold(who); err != api.OK {
		b.t.Fatal(b.kind, "can't hold", who, err)
	}
	th.held = who
}

// push: entries are a thread's own.
func (b *bench) push(th *thread, entries ...queue.Entry) {
	th.core.Queue().Push(entries...)
	th.own = append(th.own, entries...)
}

// begin begins an op of a thread.
func (b *bench) begin(th *thread, o api.Op) *chain.Op {
	b.t.Helper()
	b.w.forget()
	th.op = chain.New(th.core, o)
	if th.op == nil {
		b.t.Fatal(b.kind, b.conf, "there is no", o)
	}
	th.machine = th.op
	b.tells(th, &teller{op: o, what: "op", key: o.Key, row: "c"})
	return th.op
}

// search begins a search of a thread, alone.
func (b *bench) search(th *thread, root int, key uint64) {
	b.t.Helper()
	b.w.forget()
	th.search = seek.NewSearch(th.core, root, key, false)
	th.machine, th.op = th.search, nil
	b.tells(th, &teller{what: "search", root: root, key: key, row: "c"})
}

// find makes one that goes on alone.
func (b *bench) find(th *thread, root int, key uint64) {
	b.t.Helper()
	b.search(th, root, key)
	if state, _ := b.run(th); state != core.Done {
		b.t.Fatal(b.kind, b.conf, "a search ends", name(state))
	}
}

// link begins a Link of a thread, where its last search ended.
func (b *bench) link(th *thread) *chain.Link {
	b.t.Helper()
	b.w.forget()
	l := chain.NewLink(th.core, th.lane)
	th.machine, th.op = l, nil
	b.tells(th, &teller{what: "link", row: "i1", spot: th.spot})
	return l
}

// unlink begins an Unlink of a thread, where its last search ended.
func (b *bench) unlink(th *thread, root int, key uint64, to soul.Who) *chain.Unlink {
	b.t.Helper()
	b.w.forget()
	u := chain.NewUnlink(th.core, th.lane, root, key, to)
	th.machine, th.op = u, nil
	b.tells(th, &teller{what: "unlink", row: "d1", spot: th.spot, root: root, key: key, to: to})
	return u
}

// tells: what the tables say of a thread's new machine, which has made no access.
func (b *bench) tells(th *thread, x *teller) {
	b.t.Helper()
	b.w.idle(b.t)
	x.b, x.th, th.tell = b, th, x
	b.same(th)
}

// step makes the next step of a thread's machine, and holds it against what the tables say: just one access, that one, how it stands, what the thread has, and what is answered.
func (b *bench) step(th *thread) core.State {
	b.t.Helper()
	b.w.forget()
	row := th.tell.row
	state := th.machine.Step(b.w)
	if len(b.w.seen) != 1 || b.w.asks != 0 {
		b.t.Fatal(b.kind, b.conf, row, "asked for", b.w.seen, b.w.asks)
	}
	want := th.tell.step(b.w.seen[0], b.w.born)
	if state != want {
		b.t.Fatal(b.kind, b.conf, row, "is", name(state), "not", name(want), b.w.seen)
	}
	next := name(state)
	if state == core.Busy {
		next = th.tell.row
	}
	b.seen[row+" "+next]++
	b.same(th)
	if state != core.Busy {
		b.ended(th, state)
	}
	return state
}

// same holds what a thread has, and its op's answer, against what the chapters say.
func (b *bench) same(th *thread) {
	b.t.Helper()
	if th.core.Epoch() != th.epoch || th.core.Rolls() != th.rolls || th.core.Conf() != b.conf {
		b.t.Fatal(b.kind, b.conf, th.tell.row, "the epoch is", th.core.Epoch(), "not", th.epoch, "the rolls", th.core.Rolls(), "not", th.rolls)
	}
	if who, holds := th.core.Held(); who != th.held || holds != (th.held.Slot != 0) {
		b.t.Fatal(b.kind, b.conf, th.tell.row, "what is held is", who, holds, "not", th.held)
	}
	if got := th.core.Queue().List(); !slices.Equal(got, th.own) {
		b.t.Fatal(b.kind, b.conf, th.tell.row, "the queue is", got, "not", th.own)
	}
	if th.op != nil && th.op.Answer() != th.tell.answer {
		b.t.Fatal(b.kind, b.conf, th.tell.row, "the answer is", th.op.Answer(), "not", th.tell.answer)
	}
}

// ended: a machine that ended makes no access any more, and has changed nothing; where a search alone ended.
func (b *bench) ended(th *thread, state core.State) {
	b.t.Helper()
	x := th.tell
	if x.what == "search" {
		th.lane, th.spot = th.search.Lane(), spot{x.at, x.w, x.x}
		th.tell, th.machine = nil, nil
		return
	}
	th.answer = x.answer
	for range 2 {
		b.w.forget()
		if got := th.machine.Step(b.w); got != state {
			b.t.Fatal(b.kind, b.conf, "behind", name(state), "is", name(got))
		}
		b.w.idle(b.t)
		b.same(th)
	}
	th.tell, th.machine, th.op = nil, nil, nil
}

// steps makes so many steps, each of which is Busy.
func (b *bench) steps(th *thread, n int) {
	b.t.Helper()
	for i := range n {
		if state := b.step(th); state != core.Busy {
			b.t.Fatal(i, name(state))
		}
	}
}

// ends makes the last one of so many steps, and holds how it stands behind it.
func (b *bench) ends(th *thread, n int, want core.State) {
	b.t.Helper()
	b.steps(th, n-1)
	if state := b.step(th); state != want {
		b.t.Fatal(name(state), "not", name(want))
	}
}

// till makes steps till a row is the next one.
func (b *bench) till(th *thread, row string) {
	b.t.Helper()
	for range 10000 {
		if th.tell == nil {
			break
		}
		if th.tell.row == row {
			return
		}
		b.step(th)
	}
	b.t.Fatal(b.kind, b.conf, "never comes to", row)
}

// run makes steps of a thread's machine till it ends, and answers how, and how many there were.
func (b *bench) run(th *thread) (core.State, int) {
	b.t.Helper()
	for n := 1; n <= 100000; n++ {
		if state := b.step(th); state != core.Busy {
			return state, n
		}
	}
	b.t.Fatal(b.kind, b.conf, "no end")
	return core.Busy, 0
}

// ask makes an op of a thread that goes on alone: it ends within Alone steps, and answers that.
func (b *bench) ask(th *thread, o api.Op, want api.Answer) int {
	b.t.Helper()
	b.begin(th, o)
	state, n := b.run(th)
	if state != core.Done || n > alone(b.conf) || th.answer != want {
		b.t.Fatal(b.kind, b.conf, o, "ends", name(state), "behind", n, "and answers", th.answer, "not", want)
	}
	return n
}

// name is a state's.
func name(s core.State) string {
	return []string{"Busy", "Done", "Again", "Full", "Late"}[s]
}

// item is a slot of a list: where it stands, its key, whether it is marked, and who it is, once it is laid.
type item struct {
	slot int
	key  uint64
	out  bool
	id   int
}

// who is who it is.
func (i item) who() soul.Who { return soul.Who{Slot: i.slot, Id: i.id} }

// lay lays a list from the root on, whose links have that version, and answers its items with who they are, and each one's link behind the root's.
func (b *bench) lay(version int, items ...item) ([]item, []world.Val) {
	return b.layAt(0, version, items...)
}

// layAt lays it from any root on.
func (b *bench) layAt(root, version int, items ...item) ([]item, []world.Val) {
	items = slices.Clone(items)
	links := []world.Val{{Word: link(0, version)}}
	for i := len(items) - 1; i >= 0; i-- {
		it := &items[i]
		it.id = b.w.World.Born(it.slot)
		if it.out {
			links[0].Word |= mark
		}
		b.w.World.Store(by(it.who(), nextPart), links[0])
		b.put(by(it.who(), keyPart), it.key)
		links = append([]world.Val{{Word: link(it.slot, version), Id: it.id}}, links...)
	}
	b.w.World.Store(ref(api.Place{Kind: 4, Part: root}), links[0])
	return items, links
}

// linked are the slots that the root leads to, in order.
func (b *bench) linked() []int {
	var all []int
	for s := slotOf(b.w.World.Peek(rootCell)); s != 0; s = slotOf(b.w.World.Peek(part(s, nextPart))) {
		if all = append(all, s); len(all) > 1000 {
			b.t.Fatal(b.kind, b.conf, "the list goes in a circle")
		}
	}
	return all
}

// isOut is whether a slot's link has a mark.
func (b *bench) isOut(slot int) bool { return b.w.World.Peek(part(slot, nextPart)) >= mark }

// keys are the keys of the slots without marks that the root leads to, in order.
func (b *bench) keys() []uint64 {
	var all []uint64
	for _, s := range b.linked() {
		if !b.isOut(s) {
			all = append(all, b.w.World.Peek(part(s, keyPart)))
		}
	}
	return all
}

// has holds that the list has just these keys, in order.
func (b *bench) has(keys ...uint64) {
	b.t.Helper()
	if got := b.keys(); !slices.Equal(got, keys) {
		b.t.Fatal(b.kind, b.conf, "the list has", got, "not", keys)
	}
}

// clean holds that nothing stale went anywhere.
func (b *bench) clean() {
	b.t.Helper()
	if f, is := b.w.World.(interface{ Faults() int }); is && f.Faults() != 0 {
		b.t.Fatal(b.kind, "has faults", f.Faults())
	}
}
