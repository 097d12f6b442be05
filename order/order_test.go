package order_test

import (
	"math"
	"testing"

	"revenant/api"
	"revenant/conf"
	"revenant/core"
	"revenant/ghost"
	"revenant/ideal"
	"revenant/order"
	"revenant/queue"
	"revenant/shade"
	"revenant/world"
)

// P20.1: each Kind of op, of each structure, in each world: its answer, and of those that the chapters number its steps.
func TestKinds(t *testing.T) {
	type row struct {
		op    api.Op
		want  api.Answer
		steps int // 0: whatever it is
	}
	for _, kind := range kinds {
		for _, c := range []struct {
			conf api.Config
			rows []row
		}{
			{list(2), []row{{has(5), no, 3}, {remove(5), no, 3}, {give, had(0), 1}, {insert(5, 0), yes, 12}, {insert(5, 0), no, 0}, {has(5), yes, 0},
				{insert(0, 0), yes, 0}, {insert(math.MaxUint64, 0), refused(api.ErrFull), 0}, {remove(5), yes, 0}, {remove(5), no, 0},
				{give, had(1), 4}, {insert(math.MaxUint64, 0), yes, 0}, {has(math.MaxUint64), yes, 0}, {give, had(0), 1}}},
			{hash(2, 1), []row{{get(5), no, 3}, {out(5), no, 3}, {give, had(0), 1}, {put(5, 1), no, 13}, {add(5, 7), kept(1), 0}, {get(5), had(1), 0},
				{put(5, math.MaxUint64), had(1), 0}, {out(5), had(math.MaxUint64), 0}, {out(5), no, 0}, {give, had(2), 7}, {add(5, 8), yes, 0}, {get(5), had(8), 0}, {add(6, 9), yes, 0},
				{put(5, 3), refused(api.ErrFull), 0}, {add(7, 3), refused(api.ErrFull), 0}, {get(7), no, 0}}},
			{tall(2, 2), []row{{has(5), no, 5}, {remove(5), no, 5}, {give, had(0), 1}, {insert(5, 2), yes, 21}, {insert(5, 1), no, 0}, {has(5), yes, 0},
				{insert(4, 1), yes, 0}, {insert(6, 1), refused(api.ErrFull), 0}, {remove(5), yes, 0}, {remove(5), no, 0}, {give, had(1), 4}, {insert(6, 1), yes, 0}, {has(6), yes, 0}}},
		} {
			b := benchOf(t, kind, c.conf, 1)
			for i, r := range c.rows {
				if n := b.asks(b.threads[0], r.op, r.want); r.steps != 0 && n != r.steps {
					t.Error(kind, c.conf, i, r.op, "makes", n, "steps, not", r.steps)
				}
			}
		}
	}
}

// pairs are keys and their values, held one op at a time.
type pairs map[uint64]uint64

// do is what an op is answered of a structure of so many slots, and what there is behind it.
func (p pairs) do(o api.Op, slots int) api.Answer {
	val, is := p[o.Key]
	isFull := len(p) == slots
	switch o.Kind {
	case api.Insert:
		if is || isFull {
			return full(!is, no)
		}
		p[o.Key] = 0
		return yes
	case api.Put:
		if isFull {
			return refused(api.ErrFull)
		}
		p[o.Key] = o.Val
		return api.Answer{Done: is, Val: val}
	case api.Add:
		if is || isFull {
			return full(!is, kept(val))
		}
		p[o.Key] = o.Val
		return yes
	case api.Delete, api.Remove:
		delete(p, o.Key)
	}
	return api.Answer{Done: is, Val: val}
}

// full is ErrFull, if it is, or that answer.
func full(is bool, other api.Answer) api.Answer {
	if is {
		return refused(api.ErrFull)
	}
	return other
}

// P20.1: rows of any ops of one thread, of each structure, in each world: beside the layers' own machines, and answered as sets and maps that are changed by one op at a time.
func TestAlone(t *testing.T) {
	seen := map[ended]int{}
	for _, kind := range kinds {
		for i, c := range append(structures(3), structures(1)...) {
			x, p := numbers(i), pairs{}
			b := benchOf(t, kind, c, 1)
			th := b.threads[0]
			for n := range 250 {
				o := one(&x, ops(c, uint64(x.below(5)), uint64(n)))
				want := had(uint64(th.core.Queue().Len()))
				if o != give {
					want = p.do(o, c.Slots)
				}
				if steps := b.asks(th, o, want); steps > conf.Alone(c) {
					t.Error(kind, c, o, "makes", steps, "steps")
				}
			}
			b.count(seen)
		}
	}
	came(t, seen, append(ends(), ended{api.Give, api.OK, true})...)
}

// ends are how ops that aren't Gives end.
func ends() []ended {
	list := []ended{{api.Insert, api.ErrFull, false}, {api.Put, api.ErrFull, false}, {api.Add, api.ErrFull, false}}
	for kind := api.Insert; kind < api.Give; kind++ {
		list = append(list, ended{kind, api.OK, false}, ended{kind, api.OK, true})
	}
	return list
}

// came holds that ops ended in each of these ways.
func came(t *testing.T, seen map[ended]int, list ...ended) {
	t.Helper()
	for _, e := range list {
		if seen[e] == 0 {
			t.Error("none ended so:", e)
		}
	}
}

// P20.1: threads that go on in any order, each with ops of its own, of each structure, in each world, with few and many epochs.
func TestMany(t *testing.T) {
	seen := map[ended]int{}
	for _, kind := range kinds {
		for i, c := range append(structures(4), structures(2)...) {
			for _, limit := range []int{maxEpoch, 9} {
				x := numbers(i)
				b := benchOf(t, kind, limited(c, limit), 3)
				for n := range 6000 {
					th := one(&x, b.threads)
					if th.machine == nil || th.over {
						b.begin(th, one(&x, ops(c, uint64(x.below(3)), uint64(n))))
					}
					b.step(th)
				}
				b.count(seen)
			}
		}
	}
	came(t, seen, append(ends(), ended{api.Give, api.OK, true}, ended{api.Give, api.ErrEpoch, false}, ended{api.Insert, api.ErrEpoch, false}, ended{api.Put, api.ErrEpoch, false}, ended{api.Add, api.ErrEpoch, false})...)
}

// between is a bench of two threads, each with a key in a structure, and a slot of its own.
func between(t *testing.T, kind string, c api.Config) *bench {
	b := benchOf(t, kind, c, 2)
	for i, th := range b.threads {
		b.ask(th, ops(c, uint64(i), 7)[0])
		b.ask(th, ops(c, 9, 7)[0])
		b.asks(th, without(c, 9), api.Answer{Done: true, Val: ops(c, 9, 7)[0].Val})
	}
	return b
}

// several are ops of a structure, of a key that is there, and of one that isn't.
func several(c api.Config, value uint64) []api.Op {
	all := ops(c, 1, value)
	return append(all[:len(all)-1], ops(c, 5, value)...)
}

// P20.1: between any two steps of any op another thread makes a whole op of its own.
func TestBetween(t *testing.T) {
	for _, kind := range kinds {
		for _, c := range structures(5) {
			for _, first := range several(c, 3) {
				for _, second := range several(c, 4) {
					for cut := 0; ; cut++ {
						b := between(t, kind, c)
						th, other := b.threads[0], b.threads[1]
						b.begin(th, first)
						for n := 0; n < cut && !th.over; n++ {
							b.step(th)
						}
						if th.over {
							break
						}
						b.ask(other, second)
						b.same(th)
						b.run(th)
					}
				}
			}
		}
	}
}

// P20.1: an op of one thread goes on while the other one's goes on: one step each, or some.
func TestTurns(t *testing.T) {
	for _, kind := range kinds {
		for _, c := range structures(5) {
			for _, first := range ops(c, 1, 3) {
				for _, second := range ops(c, 1, 4) {
					for turn := 1; turn <= 5; turn++ {
						b := between(t, kind, c)
						b.begin(b.threads[0], first)
						b.begin(b.threads[1], second)
						for n := 0; !b.threads[0].over || !b.threads[1].over; n++ {
							if th := b.threads[n/turn%2]; !th.over {
								b.step(th)
							}
						}
					}
				}
			}
		}
	}
}

// own are n slots that a thread has, from that one on, never seen by others.
func own(from, n int) []queue.Entry {
	var list []queue.Entry
	for s := range n {
		list = append(list, queue.Entry{Slot: from + s})
	}
	return list
}

// P20.1: a Give of none, of one and of many: a checkpoint, and three steps each; how many is its Val.
func TestGive(t *testing.T) {
	for _, kind := range kinds {
		for _, c := range structures(300) {
			b := benchOf(t, kind, c, 2)
			from := 1
			for _, n := range []int{0, 1, 2, 3, 0, 17, 256} {
				th := b.threads[n%2]
				b.push(th, own(from, n)...)
				if steps := b.asks(th, give, had(uint64(n))); steps != 1+3*n {
					t.Error(kind, c, "a Give of", n, "makes", steps, "steps")
				}
				if th.core.Queue().Len() != 0 {
					t.Error(kind, c, "is left", th.core.Queue().List())
				}
				if slot := int(b.w.World.Peek(poolCell.Place) >> 40); from+n > 1 && slot != from+n-1 {
					t.Error(kind, c, "the pool begins at", slot)
				}
				from += n
			}
		}
	}
}

// P20.1: what comes to the thread while it gives is given too, and counts in its Val; what it holds stays.
func TestGiveMore(t *testing.T) {
	for _, kind := range kinds {
		b := benchOf(t, kind, list(9), 2)
		th, other := b.threads[0], b.threads[1]
		b.born(th, 9)
		b.push(th, own(1, 2)...)
		b.push(other, own(5, 3)...)
		b.begin(th, give)
		for range 5 {
			b.step(th)
		}
		b.push(th, own(3, 2)...)
		b.asks(other, give, had(3))
		b.run(th)
		if th.answer != had(4) {
			t.Error(kind, th.answer)
		}
		if who, holds := th.core.Held(); who.Slot != 9 || !holds {
			t.Error(kind, "holds", who, holds)
		}
	}
}

// P20.1: a Give that ends Late, at once or behind some that it gave: ErrEpoch alone; what isn't given stays.
func TestGiveLate(t *testing.T) {
	for _, kind := range kinds {
		for _, c := range structures(9) {
			for _, limit := range []int{2, 3, 5, 1000, maxEpoch} {
				for given := range 3 {
					b := benchOf(t, kind, limited(c, limit), 1)
					th := b.threads[0]
					b.put(poolCell, link(0, limit-given))
					b.push(th, own(1, 4)...)
					if steps := b.asks(th, give, refused(api.ErrEpoch)); steps != 2+3*given {
						t.Error(kind, c, limit, given, "ends behind", steps)
					}
					if left := th.core.Queue().Len(); left != 4-given {
						t.Error(kind, c, limit, given, "is left", left)
					}
				}
				b := benchOf(t, kind, limited(c, limit), 1)
				b.put(poolCell, link(0, limit))
				b.asks(b.threads[0], give, had(0))
			}
		}
	}
}

// P20.1: an op that comes to no slot since there is no epoch: ErrEpoch alone; all others are answered.
func TestLate(t *testing.T) {
	for _, kind := range kinds {
		for _, c := range structures(3) {
			b := benchOf(t, kind, limited(c, 2), 1)
			th := b.threads[0]
			all := ops(c, 5, 1)
			b.put(epochCell, 2)
			b.push(th, queue.Entry{Slot: 1, Retired: 2})
			b.asks(th, all[0], refused(api.ErrEpoch))
			if c.Kind == api.Hash {
				b.asks(th, all[1], refused(api.ErrEpoch))
			}
			for _, o := range all[len(all)-3 : len(all)-1] {
				b.asks(th, o, no)
			}
			b.asks(th, give, had(1))
		}
	}
}

// P20.1: ahead of Done the answer is the zero one and false, whatever the op is to answer; Steps goes on one by one.
func TestAhead(t *testing.T) {
	w := world.New()
	world.Start(w)
	c := core.New(list(4))
	m, err := order.New(c, insert(5, 0))
	if err != api.OK {
		t.Fatal(err)
	}
	for n := range 12 {
		if a, over := m.Answer(); a != no || over || m.Steps() != n {
			t.Error(n, a, over, m.Steps())
		}
		if state := m.Step(w); (state == core.Done) != (n == 11) || state > core.Done {
			t.Error(n, state)
		}
	}
	for range 5 {
		if a, over := m.Answer(); a != yes || !over || m.Steps() != 12 || m.Op() != insert(5, 0) {
			t.Error(a, over, m.Steps(), m.Op())
		}
		if state := m.Step(w); state != core.Done {
			t.Error(state)
		}
	}
	if got := w.Count(); got.Loads+got.Stores+got.Swaps+got.Adds != 12+1 {
		t.Error("made", got)
	}
}

// P20.1: behind Done an answer stays as it was, and no step is made, whatever the thread does next; the next op's machine knows nothing of it.
func TestBehind(t *testing.T) {
	for _, kind := range kinds {
		for _, c := range structures(4) {
			for _, o := range ops(c, 5, 3) {
				b := benchOf(t, kind, c, 1)
				th := b.threads[0]
				n, a := b.ask(th, o)
				m := th.machine
				for _, next := range several(c, 4) {
					b.ask(th, next)
					b.w.forget()
					state := m.Step(b.w)
					b.w.idle(t)
					if got, over := m.Answer(); got != a || !over || state != core.Done || m.Steps() != n || m.Op() != o {
						t.Error(kind, c, o, "is", state, got, over, m.Steps(), m.Op())
					}
				}
			}
		}
	}
}

// P20.1: ops of a thread that holds a slot, and has some, begin as those of one that hasn't: New changes nothing of it.
func TestNew(t *testing.T) {
	for _, kind := range kinds {
		for _, c := range structures(6) {
			b := benchOf(t, kind, c, 1)
			th := b.threads[0]
			b.born(th, 2)
			b.push(th, queue.Entry{Slot: 3, Retired: 6, Id: 4})
			th.core.Check(b.w)
			th.beside.Check(b.beside)
			for _, o := range ops(c, 5, 3) {
				b.begin(th, o)
			}
			for _, o := range ops(c, 5, 3) {
				b.ask(th, o)
			}
		}
	}
}

// isOp is what the chapters say of an op of a structure that can be.
func isOp(c api.Config, o api.Op) api.Errno {
	set, raises := c.Kind != api.Hash, c.Kind == api.Skip && o.Kind == api.Insert
	switch {
	case o.Kind < api.Insert || o.Kind > api.Give || o.Kind <= api.Has && !set || o.Kind >= api.Put && o.Kind <= api.Get && set:
		return api.ErrKind
	case raises && (o.Level < 1 || o.Level > c.Height) || !raises && o.Level != 0:
		return api.ErrRange
	case o.Val != 0 && o.Kind != api.Put && o.Kind != api.Add || o.Key != 0 && o.Kind == api.Give:
		return api.ErrArg
	}
	return api.OK
}

// P20.1: an op that can't be asked of the structure is IsOp's error, and no machine; each one that can be is one.
func TestCannot(t *testing.T) {
	levels := []int{-1, 0, 1, 2, 3, 4, 16, 17, 255, 256, math.MaxInt, math.MinInt}
	some := []uint64{0, 1, 1 << 63, math.MaxUint64}
	seen := map[api.Errno]int{}
	for _, c := range append(structures(4), list(maxSlots), hash(1, 64), tall(maxSlots, 16), limited(list(1), 2)) {
		for _, kind := range []int{math.MinInt, -1, 0, 1, 2, 3, 4, 5, 6, 7, 8, 9, 255, 256, 257, math.MaxInt} {
			for _, level := range levels {
				for _, key := range some {
					for _, val := range some {
						o := api.Op{Kind: kind, Key: key, Val: val, Level: level}
						want := isOp(c, o)
						m, err := order.New(core.New(c), o)
						if err != want || err != conf.IsOp(c, o) || (m == nil) != (err != api.OK) {
							t.Error(c, o, "is", m, err, "not", want)
						}
						if m != nil && m.Op() != o {
							t.Error(c, o, "is told as", m.Op())
						}
						seen[err]++
					}
				}
			}
		}
	}
	for _, err := range []api.Errno{api.OK, api.ErrKind, api.ErrRange, api.ErrArg} {
		if seen[err] == 0 {
			t.Error("none is", err)
		}
	}
}

// P20.1: nothing at all: ErrNil of a nil thread, whatever the op, also of a structure that can't be; every method of a nil Machine.
func TestNil(t *testing.T) {
	for kind := -1; kind <= 10; kind++ {
		for _, o := range []api.Op{{Kind: kind}, {Kind: kind, Key: 5}, {Kind: kind, Val: 5}, {Kind: kind, Level: 1}, {Kind: kind, Level: -1}} {
			if m, err := order.New(nil, o); m != nil || err != api.ErrNil {
				t.Error(o, m, err)
			}
			if m, err := order.New(core.New(list(0)), o); m != nil || err != api.ErrNil {
				t.Error(o, m, err)
			}
		}
	}
	var m *order.Machine
	for _, kind := range kinds {
		w := &watched{World: made(kind)}
		for range 3 {
			for _, w := range []world.World{w, nil} {
				if state := m.Step(w); state != core.Done {
					t.Error(kind, state)
				}
			}
			if a, over := m.Answer(); m.Op() != (api.Op{}) || a != no || over || m.Steps() != 0 {
				t.Error(kind, m.Op(), a, over, m.Steps())
			}
		}
		w.idle(t)
	}
}

// broken is a world that panics.
type broken struct{ world.World }

// P1: steps in worlds that are nil, or panic, end and panic no more, from any step on; behind them what is answered is still the zero answer, or the op is over.
func TestBroken(t *testing.T) {
	worlds := []world.World{nil, (*world.Plain)(nil), (*ghost.Ghost)(nil), (*ideal.Ideal)(nil), (*shade.Shade)(nil), (*broken)(nil), broken{}}
	for _, w := range worlds {
		for _, c := range structures(5) {
			for _, o := range ops(c, 1, 3) {
				for cut := range 30 {
					b := between(t, "plain", c)
					b.push(b.threads[0], own(5, 1)...)
					m, _ := order.New(b.threads[0].core, o)
					for range cut {
						m.Step(b.w)
					}
					for range 5 {
						state := m.Step(w)
						if a, over := m.Answer(); over != (state == core.Done) || !over && a != no || state > core.Done {
							t.Error(c, o, cut, state, a, over)
						}
					}
				}
			}
		}
	}
	// Nobody's package made this one, but no call of it panics.
	m := new(order.Machine)
	m.Step(world.New())
	m.Answer()
}
