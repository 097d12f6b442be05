package order_test

import (
	"math"
	"slices"
	"testing"

	"revenant/alloc"
	"revenant/api"
	"revenant/cell"
	"revenant/chain"
	"revenant/core"
	"revenant/ghost"
	"revenant/ideal"
	"revenant/order"
	"revenant/place"
	"revenant/queue"
	"revenant/shade"
	"revenant/skip"
	"revenant/soul"
	"revenant/table"
	"revenant/world"
)

// The limits, as the document says them.
const (
	maxSlots = 1<<23 - 1
	maxEpoch = 1<<40 - 1
)

// The cells that all share.
var (
	epochCell = world.At{Place: api.Place{Kind: 1}}
	poolCell  = world.At{Place: api.Place{Kind: 2}}
)

// link is the word of a link without a mark.
func link(slot, version int) uint64 { return uint64(slot)<<40 | uint64(version) }

// list, hash and tall are structures; limited is one with fewer epochs.
func list(slots int) api.Config {
	return api.Config{Kind: api.List, Slots: slots, Height: 1, Limit: maxEpoch}
}
func hash(slots, buckets int) api.Config {
	return api.Config{Kind: api.Hash, Slots: slots, Buckets: buckets, Height: 1, Limit: maxEpoch}
}
func tall(slots, height int) api.Config {
	return api.Config{Kind: api.Skip, Slots: slots, Height: height, Limit: maxEpoch}
}
func limited(c api.Config, limit int) api.Config {
	c.Limit = limit
	return c
}

// structures are some of each kind, of so many slots.
func structures(slots int) []api.Config {
	return []api.Config{list(slots), hash(slots, 1), hash(slots, 3), tall(slots, 1), tall(slots, 3)}
}

// The ops.
func insert(key uint64, level int) api.Op { return api.Op{Kind: api.Insert, Key: key, Level: level} }
func remove(key uint64) api.Op            { return api.Op{Kind: api.Delete, Key: key} }
func has(key uint64) api.Op               { return api.Op{Kind: api.Has, Key: key} }
func put(key, value uint64) api.Op        { return api.Op{Kind: api.Put, Key: key, Val: value} }
func add(key, value uint64) api.Op        { return api.Op{Kind: api.Add, Key: key, Val: value} }
func out(key uint64) api.Op               { return api.Op{Kind: api.Remove, Key: key} }
func get(key uint64) api.Op               { return api.Op{Kind: api.Get, Key: key} }

var give = api.Op{Kind: api.Give}

// The answers.
var (
	no  = api.Answer{}
	yes = api.Answer{Done: true}
)

func had(value uint64) api.Answer      { return api.Answer{Done: true, Val: value} }
func kept(value uint64) api.Answer     { return api.Answer{Val: value} }
func refused(err api.Errno) api.Answer { return api.Answer{Err: err} }

// ops are those that can be asked of a structure, of each kind one or more, all of one key but for a Give.
func ops(c api.Config, key, value uint64) []api.Op {
	switch {
	case c.Kind == api.Hash:
		return []api.Op{put(key, value), add(key, value), out(key), get(key), give}
	case c.Kind == api.List:
		return []api.Op{insert(key, 0), remove(key), has(key), give}
	case c.Height == 1:
		return []api.Op{insert(key, 1), remove(key), has(key), give}
	}
	return []api.Op{insert(key, 1), insert(key, c.Height), remove(key), has(key), give}
}

// without is the op that takes a key out of a structure.
func without(c api.Config, key uint64) api.Op {
	if c.Kind == api.Hash {
		return out(key)
	}
	return remove(key)
}

// kinds are the kinds of worlds.
var kinds = []string{"plain", "ghost", "ideal", "shade"}

// made is a new world of a kind, all of whose cells are 0.
func made(kind string) world.World {
	switch kind {
	case "ghost":
		return ghost.New()
	case "ideal":
		return ideal.New()
	case "shade":
		return shade.New(0, 1<<63, link(1, 1), 5, link(2, 3), 1<<63|link(1, 7), math.MaxUint64)
	}
	return world.New()
}

// numbers are numbers that look like any, always the same.
type numbers uint64

// below is the next one, below n.
func (x *numbers) below(n int) int {
	*x = *x*6364136223846793005 + 1442695040888963407
	return int(*x>>33) % n
}

// one is one of a list.
func one[T any](x *numbers, list []T) T { return list[x.below(len(list))] }

// access is one access, what was handed in, and what was answered.
type access struct {
	kind string
	at   world.At
	old  world.Val // of a swap
	new  world.Val // of a swap, and of a store
	n    uint64    // of an addition
	got  world.Val // of a load
	was  uint64    // of an addition
	done bool      // of a swap
}

// watched is a world that keeps which accesses and births it was asked for, and how often it was asked for anything else.
type watched struct {
	world.World
	seen []access
	born []soul.Who
	asks int
}

func (w *watched) Load(a world.At) world.Val {
	got := w.World.Load(a)
	w.seen = append(w.seen, access{kind: "load", at: a, got: got})
	return got
}
func (w *watched) Store(a world.At, v world.Val) {
	w.World.Store(a, v)
	w.seen = append(w.seen, access{kind: "store", at: a, new: v})
}
func (w *watched) Swap(a world.At, old, new world.Val) bool {
	done := w.World.Swap(a, old, new)
	w.seen = append(w.seen, access{kind: "swap", at: a, old: old, new: new, done: done})
	return done
}
func (w *watched) Add(a world.At, n uint64) uint64 {
	was := w.World.Add(a, n)
	w.seen = append(w.seen, access{kind: "add", at: a, n: n, was: was})
	return was
}
func (w *watched) Born(slot int) int {
	id := w.World.Born(slot)
	w.born = append(w.born, soul.Who{Slot: slot, Id: id})
	return id
}
func (w *watched) Peek(p api.Place) uint64 { w.asks++; return w.World.Peek(p) }
func (w *watched) Count() cell.Count       { w.asks++; return w.World.Count() }
func (w *watched) forget()                 { w.seen, w.born, w.asks = nil, nil, 0 }

// idle holds that nothing was asked for.
func (w *watched) idle(t *testing.T) {
	if len(w.seen) != 0 || len(w.born) != 0 || w.asks != 0 {
		t.Helper()
		t.Fatal("asked for", w.seen, w.born, w.asks)
	}
}

// layers is a machine of the layer that asks for an op, and what it answers behind the state in which it ended.
type layers struct {
	step   func(world.World) core.State
	answer func(core.State) api.Answer
}

// layersOf is an op's, as the chapter says whose it is.
func layersOf(c *core.Core, o api.Op) layers {
	if o.Kind == api.Give {
		g := alloc.NewGive(c)
		return layers{g.Step, func(s core.State) api.Answer {
			if s == core.Late {
				return refused(api.ErrEpoch)
			}
			return had(uint64(g.Given()))
		}}
	}
	var p interface {
		Step(w world.World) core.State
		Answer() api.Answer
	}
	switch c.Conf().Kind {
	case api.List:
		p = chain.New(c, o)
	case api.Hash:
		p = table.New(c, o)
	case api.Skip:
		p = skip.New(c, o)
	}
	return layers{p.Step, func(core.State) api.Answer { return p.Answer() }}
}

// thread is a thread whose ops are machines of this package, and one in another world like it, whose ops are the layers' own.
type thread struct {
	core, beside *core.Core
	machine      *order.Machine // nil: none goes on
	own          layers
	op           api.Op
	steps        int        // how many the op made
	over         bool       // whether the op is answered
	answer       api.Answer // zero ahead of that
}

// bench is some threads over two worlds alike.
type bench struct {
	t         *testing.T
	kind      string
	conf      api.Config
	w, beside *watched
	threads   []*thread
	seen      map[ended]int // how often ops ended so
}

// ended is how an op ended.
type ended struct {
	kind int
	err  api.Errno
	done bool
}

// benchOf is a bench of so many threads, over new worlds of that kind, started.
func benchOf(t *testing.T, kind string, conf api.Config, threads int) *bench {
	b := &bench{t: t, kind: kind, conf: conf, w: &watched{World: made(kind)}, beside: &watched{World: made(kind)}, seen: map[ended]int{}}
	for range threads {
		b.threads = append(b.threads, &thread{core: core.New(conf), beside: core.New(conf)})
	}
	b.put(epochCell, 1)
	return b
}

// put is another word at a cell, in both worlds.
func (b *bench) put(a world.At, word uint64) {
	b.w.World.Store(a, world.Val{Word: word})
	b.beside.World.Store(a, world.Val{Word: word})
}

// push: entries are a thread's own.
func (b *bench) push(th *thread, entries ...queue.Entry) {
	th.core.Queue().Push(entries...)
	th.beside.Queue().Push(entries...)
}

// born is a new slot that a thread holds.
func (b *bench) born(th *thread, slot int) {
	id := b.w.World.Born(slot)
	b.beside.World.Born(slot)
	who := soul.Who{Slot: slot, Id: id}
	if err := th.core.Hold(who); err != api.OK {
		b.t.Fatal(b.kind, "can't hold", who, err)
	}
	th.beside.Hold(who)
}

// begin begins an op of a thread, which makes no access.
func (b *bench) begin(th *thread, o api.Op) {
	b.t.Helper()
	b.w.forget()
	m, err := order.New(th.core, o)
	if m == nil || err != api.OK {
		b.t.Fatal(b.kind, b.conf, "there is no", o, err)
	}
	b.w.idle(b.t)
	th.machine, th.own, th.op = m, layersOf(th.beside, o), o
	th.steps, th.over, th.answer = 0, false, api.Answer{}
	b.same(th)
}

// step makes the next step of a thread's op in both worlds: just one access, the same one, with the same answer, and all that is told is the same.
func (b *bench) step(th *thread) core.State {
	b.w.forget()
	b.beside.forget()
	state, want := th.machine.Step(b.w), th.own.step(b.beside)
	if len(b.w.seen) != 1 || b.w.asks != 0 || !slices.Equal(b.w.seen, b.beside.seen) || !slices.Equal(b.w.born, b.beside.born) {
		b.t.Fatal(b.kind, b.conf, th.op, "asked for", b.w.seen, b.w.born, b.w.asks, "not", b.beside.seen, b.beside.born)
	}
	th.steps++
	if want != core.Busy {
		th.over, th.answer = true, th.own.answer(want)
		want = core.Done
	}
	if state != want {
		b.t.Fatal(b.kind, b.conf, th.op, "is", state, "not", want, b.w.seen)
	}
	b.same(th)
	if th.over {
		b.behind(th)
	}
	return state
}

// same holds what is told of a thread's op, and what the thread has; nothing is asked of the world for it.
func (b *bench) same(th *thread) {
	b.w.forget()
	for range 2 {
		if th.machine.Op() != th.op || th.machine.Steps() != th.steps {
			b.t.Fatal(b.kind, b.conf, th.op, "is told as", th.machine.Op(), "behind", th.steps, "steps as behind", th.machine.Steps())
		}
		if a, over := th.machine.Answer(); a != th.answer || over != th.over {
			b.t.Fatal(b.kind, b.conf, th.op, "answers", a, over, "not", th.answer, th.over)
		}
	}
	b.w.idle(b.t)
	if th.core.Epoch() != th.beside.Epoch() || th.core.Rolls() != th.beside.Rolls() || th.core.Conf() != b.conf {
		b.t.Fatal(b.kind, b.conf, th.op, "the thread is at", th.core.Epoch(), th.core.Rolls(), "not", th.beside.Epoch(), th.beside.Rolls())
	}
	held, holds := th.core.Held()
	if who, is := th.beside.Held(); held != who || holds != is {
		b.t.Fatal(b.kind, b.conf, th.op, "what is held is", held, holds, "not", who, is)
	}
	if !queue.Same(th.core.Queue(), th.beside.Queue()) {
		b.t.Fatal(b.kind, b.conf, th.op, "the queue is", th.core.Queue().List(), "not", th.beside.Queue().List())
	}
}

// behind: an op that is Done makes no step any more, and has changed nothing.
func (b *bench) behind(th *thread) {
	for range 3 {
		b.w.forget()
		if got := th.machine.Step(b.w); got != core.Done {
			b.t.Fatal(b.kind, b.conf, th.op, "behind Done is", got)
		}
		b.w.idle(b.t)
		b.same(th)
	}
	b.words()
	b.seen[ended{th.op.Kind, th.answer.Err, th.answer.Done}]++
}

// words holds that all cells have the same words in both worlds, and as many accesses came to them.
func (b *bench) words() {
	for n := range place.Count(b.conf) {
		p, _ := place.At(b.conf, n)
		if got, want := b.w.World.Peek(p), b.beside.World.Peek(p); got != want {
			b.t.Fatal(b.kind, b.conf, place.Name(p), "is", got, "not", want)
		}
	}
	if got, want := b.w.World.Count(), b.beside.World.Count(); got != want {
		b.t.Fatal(b.kind, b.conf, "counted were", got, "not", want)
	}
}

// run makes steps of a thread's op till it is Done, and answers how many the op has made.
func (b *bench) run(th *thread) int {
	b.t.Helper()
	for range 100000 {
		if b.step(th) == core.Done {
			return th.steps
		}
	}
	b.t.Fatal(b.kind, b.conf, th.op, "no end")
	return 0
}

// ask makes an op of a thread that goes on alone, and answers how many steps it made, and what it is answered.
func (b *bench) ask(th *thread, o api.Op) (int, api.Answer) {
	b.t.Helper()
	b.begin(th, o)
	n := b.run(th)
	return n, th.answer
}

// asks makes an op of a thread that goes on alone, and is answered that.
func (b *bench) asks(th *thread, o api.Op, want api.Answer) int {
	b.t.Helper()
	n, a := b.ask(th, o)
	if a != want {
		b.t.Fatal(b.kind, b.conf, o, "answers", a, "not", want)
	}
	return n
}

// count adds how ops ended.
func (b *bench) count(seen map[ended]int) {
	for e, n := range b.seen {
		seen[e] += n
	}
}
