package seek_test

import (
	"slices"
	"testing"

	"revenant/api"
	"revenant/cell"
	"revenant/core"
	"revenant/ghost"
	"revenant/ideal"
	"revenant/seek"
	"revenant/shade"
	"revenant/soul"
	"revenant/world"
)

// The limits, as the document says them.
const (
	maxSlots = 1<<23 - 1
	maxEpoch = 1<<40 - 1
)

// epochCell is the epoch's.
var epochCell = api.Place{Kind: 1}

// The parts of a slot, as layer 5 numbers them.
const (
	keyPart, valPart, nextPart = 3, 4, 7
)

// mark is a link's.
const mark = 1 << 63

// root is a root's cell, part a slot's.
func root(i int) api.Place       { return api.Place{Kind: 4, Part: i} }
func part(slot, n int) api.Place { return api.Place{Kind: 5, Slot: slot, Part: n} }

// ref is a reference to a cell that is nobody's.
func ref(p api.Place) world.At { return world.At{Place: p} }

// by is a reference to a slot's part, by who it is.
func by(who soul.Who, n int) world.At { return world.At{Place: part(who.Slot, n), Id: who.Id} }

// val is a word that leads to nobody.
func val(word uint64) world.Val { return world.Val{Word: word} }

// link is the word of a link without a mark, 0 if there is none of that epoch.
func link(slot, version int) uint64 {
	if version < 0 || version > maxEpoch {
		return 0
	}
	return uint64(slot)<<40 | uint64(version)
}

// slotOf is where a link's word leads.
func slotOf(word uint64) int { return int(word << 1 >> 41) }

// lead is whom a link leads to.
func lead(v world.Val) soul.Who { return soul.Who{Slot: slotOf(v.Word), Id: v.Id} }

// ofInt is a word as an int, and whether it can be one.
func ofInt(word uint64) (int, bool) {
	if word>>63 == 1 {
		return 0, false
	}
	return int(word), true
}

// list, hash and skip are structures.
func list(slots int) api.Config {
	return api.Config{Kind: api.List, Slots: slots, Height: 1, Limit: maxEpoch}
}
func hash(slots int) api.Config {
	return api.Config{Kind: api.Hash, Slots: slots, Buckets: 3, Height: 1, Limit: maxEpoch}
}
func skip(slots int) api.Config {
	return api.Config{Kind: api.Skip, Slots: slots, Height: 4, Limit: maxEpoch}
}

// each is one structure of each kind.
func each(slots int) []api.Config { return []api.Config{list(slots), hash(slots), skip(slots)} }

// kinds are the kinds of worlds.
var kinds = []string{"plain", "ghost", "ideal", "shade"}

// made is a new world of a kind, all of whose cells are 0.
func made(kind string) world.World {
	switch kind {
	case "ghost":
		return ghost.New()
	case "ideal":
		return ideal.New()
	case "shade":
		return shade.New(0, mark, link(1, 1), 5, link(2, 3), mark|link(1, 7), 1<<64-1)
	}
	return world.New()
}

// numbers are numbers that look like any, always the same.
type numbers uint64

// below is the next one, below n.
func (x *numbers) below(n int) int {
	*x = *x*6364136223846793005 + 1442695040888963407
	return int(*x>>33) % n
}

// one is one of a list.
func one[T any](x *numbers, list []T) T { return list[x.below(len(list))] }

// access is one access, what was handed in, and what was answered.
type access struct {
	kind string
	at   world.At
	old  world.Val // of a swap
	new  world.Val // of a swap, and of a store
	got  world.Val // of a load
	done bool      // of a swap
}

// event is what of an access is the same in each world.
type event struct {
	kind string
	at   api.Place
	done bool
}

// watched is a world that keeps which accesses it was asked for, and how often it was asked for anything else.
type watched struct {
	world.World
	seen []access
	all  []event
	asks int
}

func (w *watched) Load(a world.At) world.Val {
	got := w.World.Load(a)
	w.saw(access{kind: "load", at: a, got: got})
	return got
}
func (w *watched) Store(a world.At, v world.Val) {
	w.World.Store(a, v)
	w.saw(access{kind: "store", at: a, new: v})
}
func (w *watched) Swap(a world.At, old, new world.Val) bool {
	done := w.World.Swap(a, old, new)
	w.saw(access{kind: "swap", at: a, old: old, new: new, done: done})
	return done
}
func (w *watched) Add(a world.At, n uint64) uint64 {
	was := w.World.Add(a, n)
	w.saw(access{kind: "add", at: a})
	return was
}
func (w *watched) Born(slot int) int       { w.asks++; return w.World.Born(slot) }
func (w *watched) Peek(p api.Place) uint64 { w.asks++; return w.World.Peek(p) }
func (w *watched) Count() cell.Count       { w.asks++; return w.World.Count() }
func (w *watched) saw(a access) {
	w.seen, w.all = append(w.seen, a), append(w.all, event{a.kind, a.at.Place, a.done})
}
func (w *watched) forget()                     { w.seen, w.asks = nil, 0 }
func (w *watched) put(a world.At, word uint64) { w.World.Store(a, val(word)) }

// idle holds that nothing was asked for.
func (w *watched) idle(t *testing.T) {
	t.Helper()
	if len(w.seen) != 0 || w.asks != 0 {
		t.Fatal("asked for", w.seen, w.asks)
	}
}

// asked holds the accesses that were made, what was handed in alone, against a row of such.
func (w *watched) asked(t *testing.T, want ...access) {
	t.Helper()
	var got []access
	for _, a := range w.seen {
		got = append(got, access{kind: a.kind, at: a.at, old: a.old, new: a.new})
	}
	if !slices.Equal(got, want) {
		t.Fatal("asked for", got, "not", want)
	}
	w.forget()
}

// The accesses, as they are handed in.
func loads(at world.At) access { return access{kind: "load", at: at} }
func swaps(at world.At, old, new world.Val) access {
	return access{kind: "swap", at: at, old: old, new: new}
}

// valid is the access of a validation.
var valid = loads(ref(epochCell))

// machine is a lane, or a search.
type machine interface {
	Step(w world.World) core.State
}

// thread is a thread, what the chapter says of it, and its lane or search that goes on, if any.
type thread struct {
	core   *core.Core
	epoch  int
	rolls  int
	lane   *seek.Lane   // of a search its last one
	search *seek.Search // nil: a lane alone
	tell   *teller      // what the table says of it; nil: none goes on
	last   *teller      // of the one that ended last
}

// machine is its lane's, or its search's.
func (th *thread) machine() machine {
	if th.search != nil {
		return th.search
	}
	return th.lane
}

// bench is some threads over one world.
type bench struct {
	t       *testing.T
	kind    string
	conf    api.Config
	w       *watched
	threads []*thread
	seen    map[string]int // how often each row went on to what
}

// benchOf is a bench of so many threads, over a new world of that kind, started.
func benchOf(t *testing.T, kind string, conf api.Config, threads int) *bench {
	b := &bench{t: t, kind: kind, conf: conf, w: &watched{World: made(kind)}, seen: map[string]int{}}
	for range threads {
		b.threads = append(b.threads, &thread{core: core.New(conf)})
	}
	b.w.put(ref(epochCell), 1)
	return b
}

// at is a bench of one thread, behind a checkpoint with that epoch.
func at(t *testing.T, kind string, conf api.Config, epoch uint64) (*bench, *thread) {
	b := benchOf(t, kind, conf, 1)
	b.w.put(ref(epochCell), epoch)
	b.check(b.threads[0])
	return b, b.threads[0]
}

// check is a checkpoint of a thread.
func (b *bench) check(th *thread) {
	th.core.Check(b.w)
	th.epoch, _ = ofInt(b.w.World.Peek(epochCell))
	b.w.forget()
}

// lane begins a lane of a thread.
func (b *bench) lane(th *thread, at world.At, level int, key uint64, values bool) *seek.Lane {
	b.w.forget()
	th.lane, th.search = seek.New(th.core, at, level, key, values), nil
	th.tell = &teller{b: b, th: th, row: "w", at: at, level: level, key: key, values: values}
	b.w.idle(b.t)
	if th.lane == nil {
		b.t.Fatal("no lane")
	}
	return th.lane
}

// find begins a search of a thread.
func (b *bench) find(th *thread, from int, key uint64, values bool) *seek.Search {
	b.w.forget()
	th.search, th.lane = seek.NewSearch(th.core, from, key, values), nil
	th.tell = &teller{b: b, th: th, row: "c", search: true, root: from, key: key, values: values}
	b.w.idle(b.t)
	if th.search == nil || th.search.Lane() != nil {
		b.t.Fatal("a search is", th.search, "of", th.search.Lane())
	}
	return th.search
}

// step makes the next step of a thread's lane or search, and holds it against what the table says: just one access, that one, and how it stands.
func (b *bench) step(th *thread) core.State {
	b.w.forget()
	row, own := th.tell.row, th.core.Queue().List()
	held, holds := th.core.Held()
	state := th.machine().Step(b.w)
	if len(b.w.seen) != 1 || b.w.asks != 0 {
		b.t.Fatal(b.kind, b.conf, row, "asked for", b.w.seen, b.w.asks)
	}
	want := th.tell.step(b.w.seen[0])
	if state != want {
		b.t.Fatal(b.kind, b.conf, row, "is", name(state), "not", name(want), b.w.seen)
	}
	next := name(state)
	if state == core.Busy {
		next = th.tell.row
	}
	b.seen[row+" "+next]++
	if th.core.Epoch() != th.epoch || th.core.Rolls() != th.rolls || th.core.Conf() != b.conf {
		b.t.Fatal(b.kind, b.conf, row, "the epoch is", th.core.Epoch(), "not", th.epoch, "the rolls", th.core.Rolls(), "not", th.rolls)
	}
	if who, has := th.core.Held(); who != held || has != holds || !slices.Equal(th.core.Queue().List(), own) {
		b.t.Fatal(b.kind, b.conf, row, "what is held is", who, has, "and the queue", th.core.Queue().List())
	}
	if th.search != nil {
		b.lanes(th, row)
	}
	if state == core.Done {
		b.ended(th)
	}
	if state != core.Busy {
		th.tell, th.last = nil, th.tell
	}
	return state
}

// lanes holds that each checkpoint of a search, and that alone, brings a new lane.
func (b *bench) lanes(th *thread, row string) {
	l := th.search.Lane()
	if row == "c" && (l == nil || l == th.lane) || row != "c" && l != th.lane {
		b.t.Fatal(b.kind, b.conf, row, "the lane is", l, "behind", th.lane)
	}
	th.lane = l
}

// ended holds what is answered behind Done, and that there is no further step, against what the table says.
func (b *bench) ended(th *thread) {
	x, l := th.tell, th.lane
	for range 2 {
		if l.Found() != x.found || l.Who() != x.who() || l.At() != x.at || l.Into() != x.w || l.Out() != x.x || l.Val() != x.answer() {
			b.t.Fatal(b.kind, b.conf, "answers", l.Found(), l.Who(), l.At(), l.Into(), l.Out(), l.Val(), "not", x)
		}
		b.w.forget()
		if state := th.machine().Step(b.w); state != core.Done {
			b.t.Fatal("behind Done it is", name(state))
		}
		b.w.idle(b.t)
	}
	if th.core.Rolls() != th.rolls || th.core.Epoch() != th.epoch {
		b.t.Fatal("behind Done the thread has", th.core.Rolls(), th.core.Epoch())
	}
}

// steps makes so many steps, each of which is Busy.
func (b *bench) steps(th *thread, n int) {
	b.t.Helper()
	for i := range n {
		if state := b.step(th); state != core.Busy {
			b.t.Fatal(i, name(state))
		}
	}
}

// ends makes the last one of so many steps, and holds how it stands behind it.
func (b *bench) ends(th *thread, n int, want core.State) {
	b.t.Helper()
	b.steps(th, n-1)
	if state := b.step(th); state != want {
		b.t.Fatal(name(state), "not", name(want))
	}
}

// run makes steps of a thread's lane or search till it ends, and answers how, and how many there were.
func (b *bench) run(th *thread) (core.State, int) {
	b.t.Helper()
	for n := 1; n <= 100000; n++ {
		if state := b.step(th); state != core.Busy {
			return state, n
		}
	}
	b.t.Fatal(b.kind, b.conf, "no end")
	return core.Busy, 0
}

// name is a state's.
func name(s core.State) string {
	return []string{"Busy", "Done", "Again", "Full", "Late"}[s]
}

// teller tells what the chapter says of one lane, or search, row by row; a validation's row is that of its load, and a question mark.
type teller struct {
	b      *bench
	th     *thread
	row    string
	search bool
	root   int
	at     world.At
	level  int
	key    uint64
	values bool
	w      world.Val
	x      world.Val
	k      uint64
	v      uint64
	found  bool
	met    []soul.Who // those with a mark that this lane cut off, or was to
}

// step tells the row's access, by the one that was made, and how it stands behind it.
func (x *teller) step(a access) core.State {
	switch x.row {
	case "c":
		x.th.epoch, _ = ofInt(x.load(a, ref(epochCell)).Word)
		x.at, x.w, x.x, x.k, x.v, x.met = ref(root(x.root)), world.Val{}, world.Val{}, 0, 0, nil
		return x.to("w")
	case "w":
		x.w = x.load(a, x.at)
	case "x":
		x.x = x.load(a, x.part(nextPart+x.level))
	case "cut":
		return x.cut(a)
	case "k":
		x.k = x.load(a, x.part(keyPart)).Word
	case "v":
		x.v = x.load(a, x.part(valPart)).Word
	default:
		if epoch, is := ofInt(x.load(a, ref(epochCell)).Word); !is || epoch != x.th.epoch {
			x.th.rolls++
			x.b.seen["invalid "+x.row]++
			return x.again()
		}
		return x.behind()
	}
	return x.to(x.row + "?")
}

// to: a row is the next one.
func (x *teller) to(row string) core.State {
	x.row = row
	return core.Busy
}

// again is the end of a lane, of which a search begins a new one.
func (x *teller) again() core.State {
	if x.search {
		return x.to("c")
	}
	return core.Again
}

// behind is what comes of a load that was valid.
func (x *teller) behind() core.State {
	switch x.row {
	case "w?":
		if x.w.Word >= mark {
			x.b.seen["marked w"]++
			return x.again()
		}
		return x.come(x.w)
	case "x?":
		if x.x.Word >= mark {
			x.met = append(x.met, lead(x.w))
			return x.to("cut")
		}
		return x.to("k")
	case "k?":
		if x.k < x.key {
			x.at = x.part(nextPart + x.level)
			return x.come(x.x)
		}
		if x.k == x.key && x.values {
			return x.to("v")
		}
		x.found = x.k == x.key
		if x.found {
			x.b.seen["found"]++
		}
		return core.Done
	}
	x.found = true
	return core.Done
}

// come: At's link is that now.
func (x *teller) come(w world.Val) core.State {
	x.w, x.x = w, world.Val{}
	if slotOf(w.Word) == 0 {
		return core.Done
	}
	return x.to("x")
}

// cut is the row of that name.
func (x *teller) cut(a access) core.State {
	to := world.Val{Word: link(slotOf(x.x.Word), x.th.epoch), Id: x.x.Id}
	if a.kind != "swap" || a.at != x.at || a.old != x.w || a.new != to {
		x.b.t.Fatal(x.b.kind, x.b.conf, "made", a, "not a swap of", x.at, x.w, to)
	}
	if !a.done {
		x.b.seen["failed cut"]++
		return x.again()
	}
	return x.come(to)
}

// who is c; the zero one, if there is none.
func (x *teller) who() soul.Who {
	if slotOf(x.w.Word) == 0 {
		return soul.Who{}
	}
	return lead(x.w)
}

// answer is the value that is answered.
func (x *teller) answer() uint64 {
	if x.found && x.values {
		return x.v
	}
	return 0
}

// part is a reference to a part of c.
func (x *teller) part(n int) world.At { return by(lead(x.w), n) }

// load is what was loaded there.
func (x *teller) load(a access, at world.At) world.Val {
	if a.kind != "load" || a.at != at {
		x.b.t.Fatal(x.b.kind, x.b.conf, x.row, "made", a, "not a load of", at)
	}
	if a.got.Stale {
		x.b.seen["stale "+x.row]++
	}
	return a.got
}

// item is a slot of a list: where it stands, what it holds, whether it is marked, and who it is, once it is laid.
type item struct {
	slot int
	key  uint64
	val  uint64
	out  bool
	id   int
}

// who is who it is.
func (i item) who() soul.Who { return soul.Who{Slot: i.slot, Id: i.id} }

// lay lays a list from a root on, at a level, whose links have that version, and answers its items with who they are, and each one's link behind the root's.
func (b *bench) lay(from, level, version int, items ...item) ([]item, []world.Val) {
	items = slices.Clone(items)
	links := []world.Val{{Word: link(0, version)}}
	for i := len(items) - 1; i >= 0; i-- {
		it := &items[i]
		it.id = b.w.World.Born(it.slot)
		x := links[0]
		if it.out {
			x.Word |= mark
			links[0] = x
		}
		b.w.World.Store(by(it.who(), nextPart+level), x)
		b.w.put(by(it.who(), keyPart), it.key)
		b.w.put(by(it.who(), valPart), it.val)
		links = append([]world.Val{{Word: link(it.slot, version), Id: it.id}}, links...)
	}
	b.w.World.Store(ref(root(from)), links[0])
	return items, links
}

// linked are the slots that a root leads to at a level, in order.
func (b *bench) linked(from, level int) []int {
	var all []int
	for s := slotOf(b.w.World.Peek(root(from))); s != 0; s = slotOf(b.w.World.Peek(part(s, nextPart+level))) {
		if all = append(all, s); len(all) > 1000 {
			b.t.Fatal(b.kind, b.conf, "the list goes in a circle")
		}
	}
	return all
}

// isOut is whether a slot's link at a level has a mark.
func (b *bench) isOut(slot, level int) bool {
	return b.w.World.Peek(part(slot, nextPart+level)) >= mark
}
