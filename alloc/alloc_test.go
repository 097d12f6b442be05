package alloc_test

import (
	"math"
	"slices"
	"testing"

	"revenant/alloc"
	"revenant/api"
	"revenant/cell"
	"revenant/core"
	"revenant/ghost"
	"revenant/ideal"
	"revenant/queue"
	"revenant/shade"
	"revenant/soul"
	"revenant/world"
)

// asked holds the accesses that were made, what was handed in alone, against a row of such.
func (w *watched) asked(t *testing.T, want ...access) {
	t.Helper()
	var got []access
	for _, a := range w.seen {
		got = append(got, access{kind: a.kind, at: a.at, old: a.old, new: a.new, n: a.n})
	}
	if !slices.Equal(got, want) {
		t.Fatal("asked for", got, "not", want)
	}
	w.forget()
}

// The accesses, as they are handed in.
func loads(at world.At) access               { return access{kind: "load", at: at} }
func stores(at world.At, v world.Val) access { return access{kind: "store", at: at, new: v} }
func swaps(at world.At, old, new world.Val) access {
	return access{kind: "swap", at: at, old: old, new: new}
}
func adds(at world.At, n uint64) access { return access{kind: "add", at: at, n: n} }

// at is a bench of one thread in a plain world, behind a checkpoint with that epoch.
func at(t *testing.T, conf api.Config, epoch uint64) (*bench, *thread) {
	b := benchOf(t, "plain", conf, 1)
	b.set(epochCell, epoch)
	b.check(b.threads[0])
	return b, b.threads[0]
}

// full is one whose slots are all seen, so that the pool is asked next.
func full(t *testing.T, conf api.Config, epoch uint64) (*bench, *thread) {
	b, th := at(t, conf, epoch)
	b.set(freshCell, uint64(conf.Slots))
	return b, th
}

// steps makes so many steps, each of which is Busy.
func (b *bench) steps(th *thread, n int) {
	b.t.Helper()
	for i := range n {
		if state := b.step(th); state != core.Busy {
			b.t.Fatal(i, name(state))
		}
	}
}

// ends makes the last one of so many steps, and holds how it stands behind it.
func (b *bench) ends(th *thread, n int, want core.State) {
	b.t.Helper()
	b.steps(th, n-1)
	if state := b.step(th); state != want {
		b.t.Fatal(name(state), "not", name(want))
	}
}

// come makes Allocs of a thread, each behind a checkpoint, till one isn't Again, and holds how that one ends.
func (k *keeper) come(th *thread, want core.State) {
	k.b.t.Helper()
	state := core.Again
	for tries := 0; state == core.Again && tries < 9; tries++ {
		k.b.check(th)
		state = k.b.alloc(th, api.Op{Key: 5})
		for state == core.Busy {
			state = k.step(th)
		}
	}
	if state != want {
		k.b.t.Fatal(k.b.kind, k.b.conf, name(state), "not", name(want))
	}
}

// retire is a whole Retire.
func (k *keeper) retire(th *thread, who soul.Who) {
	k.b.retire(th, who)
	for k.step(th) == core.Busy {
	}
}

// give is a whole Give.
func (k *keeper) give(th *thread) {
	k.b.give(th)
	for k.step(th) == core.Busy {
	}
}

// seenBy is a bench of two threads, the first of which has seen all slots, retired them, and given them away; the epoch went on.
func seenBy(t *testing.T, kind string, conf api.Config) *keeper {
	k := keeperOf(benchOf(t, kind, conf, 2))
	th := k.b.threads[0]
	var out []soul.Who
	for range conf.Slots {
		k.come(th, core.Done)
		out = append(out, k.b.take(th))
	}
	for _, who := range out {
		k.retire(th, who)
	}
	k.give(th)
	k.b.set(epochCell, k.b.words[epochCell]+1)
	return k
}

// The example: the first Alloc of a new list of 4 slots, behind a checkpoint: f1, and three stores: the slot 1 is held.
func TestExample(t *testing.T) {
	for _, kind := range kinds {
		w := &watched{World: made(kind)}
		world.Start(w)
		c := core.New(list(4, 9))
		c.Check(w)
		w.forget()
		a, state := alloc.New(c, api.Op{Kind: api.Insert, Key: 5})
		if a == nil || state != core.Busy {
			t.Fatal(kind, a, state)
		}
		w.idle(t)
		id := 1
		if kind == "plain" {
			id = 0
		}
		who := soul.Who{Slot: 1, Id: id}
		for i, want := range []access{
			adds(ref(freshCell), 1),
			stores(by(who, birthPart), val(1)),
			stores(by(who, retirePart), val(0)),
			stores(by(who, keyPart), val(5)),
		} {
			last := core.Busy
			if i == 3 {
				last = core.Done
			}
			if state := a.Step(w); state != last {
				t.Fatal(kind, i, name(state))
			}
			w.asked(t, want)
		}
		if got, holds := c.Held(); got != who || !holds || c.Queue().Len() != 0 {
			t.Error(kind, got, holds, c.Queue().List())
		}
		if w.World.Peek(freshCell) != 1 || w.World.Peek(epochCell) != 1 || w.World.Peek(poolCell) != 0 || w.World.Peek(part(1, keyPart)) != 5 {
			t.Error(kind, "the words")
		}
	}
}

// P14.1: New is nil and Done of no thread, and of one that holds a slot, whatever is in its queue, and whatever the op.
func TestNewNone(t *testing.T) {
	x := numbers(3)
	if a, state := alloc.New(nil, opOf(&x)); a != nil || state != core.Done {
		t.Error(a, state)
	}
	for _, conf := range each(3, 2) {
		for _, own := range [][]queue.Entry{nil, {{Slot: 2}}, {{Slot: 2, Retired: 1}}, {{Slot: 2, Retired: 2}}, {{Slot: 2, Retired: 3}}} {
			for epoch := range uint64(4) {
				b, th := at(t, conf, epoch)
				b.push(th, own...)
				th.held, th.holds = soul.Who{Slot: 1, Id: 7}, true
				th.core.Hold(th.held)
				if state := b.alloc(th, opOf(&x)); state != core.Done {
					t.Error(conf, own, epoch, name(state))
				}
				b.drop(th)
				if a, state := alloc.New(th.core, opOf(&x)); a == nil && state != core.Late || a != nil && state != core.Busy {
					t.Error(conf, own, epoch, a, name(state))
				}
			}
		}
	}
}

// P14.1: what New decides, by the head of the queue alone: below the thread's epoch a birth; else an advance, or Late, if the epoch is Limit or more.
func TestDecide(t *testing.T) {
	for _, limit := range []int{2, 9, maxEpoch} {
		for _, epoch := range []int{0, 1, 2, 3, limit - 1, limit, limit + 1, math.MaxInt - 1, math.MaxInt} {
			for _, retired := range []int{0, 1, 2, epoch - 1, epoch, epoch + 1, limit - 1, limit, limit + 1, math.MaxInt, -1, math.MinInt} {
				b, th := at(t, list(3, limit), uint64(epoch))
				b.push(th, queue.Entry{Slot: 2, Retired: retired, Id: 4}, queue.Entry{Slot: 1, Retired: 0}, queue.Entry{Slot: 3, Retired: math.MaxInt})
				state := b.alloc(th, api.Op{Key: 6})
				switch {
				case retired < epoch:
					b.step(th)
					b.w.asked(t, stores(by(soul.Who{Slot: 2}, birthPart), val(uint64(epoch))))
				case epoch >= limit:
					if state != core.Late || th.core.Queue().Len() != 3 {
						t.Error(limit, epoch, retired, name(state))
					}
				default:
					b.step(th)
					b.w.asked(t, swaps(ref(epochCell), val(uint64(epoch)), val(uint64(epoch)+1)))
				}
			}
		}
	}
}

// P14.1: an empty queue: a fresh one is asked for, whatever the epoch is, at and above Limit too.
func TestDecideEmpty(t *testing.T) {
	for _, epoch := range []uint64{0, 1, 8, 9, 10, math.MaxInt, 1 << 63} {
		b, th := at(t, list(3, 9), epoch)
		if state := b.alloc(th, api.Op{}); state != core.Busy {
			t.Error(epoch, name(state))
		}
		b.step(th)
		b.w.asked(t, adds(ref(freshCell), 1))
	}
}

// P14.1: an Alloc at and above Limit goes on as long as no slot has to wait for another epoch.
func TestLimit(t *testing.T) {
	for _, epoch := range []uint64{8, 9, 10} {
		b, th := at(t, list(3, 9), epoch)
		b.alloc(th, api.Op{})
		b.ends(th, 4, core.Done)
		b.take(th)
		b.push(th, queue.Entry{Slot: 2, Retired: 7})
		b.alloc(th, api.Op{})
		b.ends(th, 3, core.Done)
		b.take(th)
		b.push(th, queue.Entry{Slot: 2, Retired: int(epoch)})
		want := core.Late
		if epoch == 8 {
			want = core.Busy
		}
		if state := b.alloc(th, api.Op{}); state != want {
			t.Error(epoch, name(state))
		}
	}
}

// P14.1: the swap of the epoch ends Again, whether it is done or another thread was ahead; the thread's own epoch and its queue stay.
func TestAdvance(t *testing.T) {
	for _, limit := range []int{5, 9, maxEpoch} {
		for _, now := range []uint64{0, 3, 4, 5, 6, 8, 1 << 32, 1<<32 + 4, 1<<63 + 4, math.MaxUint64} {
			b, th := at(t, list(3, limit), 4)
			b.push(th, queue.Entry{Slot: 2, Retired: 4})
			b.alloc(th, api.Op{})
			b.set(epochCell, now)
			b.ends(th, 1, core.Again)
			b.w.asked(t, swaps(ref(epochCell), val(4), val(5)))
			want := now
			if now == 4 {
				want = 5
			}
			if got := b.w.World.Peek(epochCell); got != want || th.core.Epoch() != 4 || th.core.Queue().Len() != 1 {
				t.Error(limit, now, got, th.core.Epoch())
			}
		}
	}
}

// P14.1: a thread behind no checkpoint has the epoch 0: what was never seen must wait, too, also what it counts as fresh.
func TestFirst(t *testing.T) {
	b := benchOf(t, "plain", list(3, 9), 1)
	th := b.threads[0]
	b.alloc(th, api.Op{})
	b.steps(th, 1)
	b.w.asked(t, adds(ref(freshCell), 1))
	if th.tell.row != "a1" || !slices.Equal(th.core.Queue().List(), []queue.Entry{{Slot: 1}}) {
		t.Error(th.tell.row, th.core.Queue().List())
	}
	b.ends(th, 1, core.Again)
	b.w.asked(t, swaps(ref(epochCell), val(0), val(1)))
}

// P14.1: FRESH below, at and above Slots, and at the ends of a word: one more of it each time, that goes round.
func TestFresh(t *testing.T) {
	for _, slots := range []int{1, 2, 7, maxSlots} {
		n := uint64(slots)
		for _, there := range []uint64{0, 1, n / 2, n - 1, n, n + 1, 1 << 32, 1<<32 + 1, 1<<63 - 1, 1 << 63, 1<<63 + 1, math.MaxUint64 - 1, math.MaxUint64} {
			b, th := at(t, list(slots, 9), 3)
			b.set(freshCell, there)
			b.alloc(th, api.Op{Key: 6})
			b.steps(th, 1)
			if got := b.w.World.Peek(freshCell); got != there+1 {
				t.Error(slots, there, "became", got)
			}
			b.step(th)
			if there >= n {
				b.w.asked(t, loads(ref(poolCell)))
				continue
			}
			who := soul.Who{Slot: int(there) + 1}
			b.w.asked(t, stores(by(who, birthPart), val(3)))
			if got, holds := th.core.Held(); got != who || !holds {
				t.Error(slots, there, got, holds)
			}
		}
	}
}

// P14.1: a POOL whose link leads to 0 ends Full, whatever its version and mark are; nothing is changed, but FRESH.
func TestFull(t *testing.T) {
	for _, version := range []int{0, 1, 8, 9, 10, maxEpoch} {
		for _, mark := range []uint64{0, 1 << 63} {
			b, th := full(t, list(3, 9), 3)
			b.set(poolCell, link(0, version)|mark)
			b.alloc(th, api.Op{})
			b.ends(th, 2, core.Full)
			if got := b.w.World.Peek(poolCell); got != link(0, version)|mark || b.w.World.Peek(freshCell) != 4 || th.core.Queue().Len() != 0 {
				t.Error(version, mark, got)
			}
		}
	}
}

// P14.1: a POOL whose version is Limit or more ends Late; below that its slot is looked at.
func TestPoolLimit(t *testing.T) {
	for _, limit := range []int{2, 9, maxEpoch} {
		for _, version := range []int{0, 1, limit - 1, limit, min(limit+1, maxEpoch), maxEpoch} {
			for _, mark := range []uint64{0, 1 << 63} {
				b, th := full(t, list(3, limit), 3)
				b.set(poolCell, link(2, version)|mark)
				b.set(part(2, chainPart), link(3, 77)|mark)
				b.alloc(th, api.Op{})
				if version >= limit {
					b.ends(th, 2, core.Late)
					continue
				}
				b.steps(th, 4)
				b.step(th)
				b.w.asked(t, swaps(ref(poolCell), val(link(2, version)|mark), val(link(3, version+1))))
				if got := b.w.World.Peek(poolCell); got != link(3, version+1) {
					t.Error(limit, version, got)
				}
			}
		}
	}
}

// P14.1: a slot out of the pool is queued with its Retired: below the epoch it is born at once, at and above it the epoch must go on, or it is Late; a word that is no int is 0.
func TestOutOfPool(t *testing.T) {
	for _, epoch := range []int{0, 1, 5, 8, 9, 10} {
		for _, word := range []uint64{0, 1, 4, 5, 6, 8, 9, 10, 11, 1 << 40, 1<<63 - 1, 1 << 63, 1<<63 + 5, math.MaxUint64} {
			b, th := full(t, list(3, 9), uint64(epoch))
			b.set(poolCell, link(3, 1))
			b.set(part(3, retirePart), word)
			b.alloc(th, api.Op{Key: 6})
			b.steps(th, 4)
			b.w.asked(t, loads(by(soul.Who{Slot: 3}, retirePart)))
			state := b.step(th)
			if want := []queue.Entry{{Slot: 3, Retired: ofInt(word)}}; !slices.Equal(th.core.Queue().List(), want) {
				t.Error(epoch, word, th.core.Queue().List())
			}
			if b.w.World.Peek(poolCell) != link(0, 2) {
				t.Error(epoch, word, "the pool is", b.w.World.Peek(poolCell))
			}
			switch {
			case ofInt(word) < epoch:
				b.ends(th, 3, core.Done)
			case epoch >= 9:
				if state != core.Late {
					t.Error(epoch, word, name(state))
				}
			default:
				b.ends(th, 1, core.Again)
			}
		}
	}
}

// P14.1: a swap of the pool isn't done if anything there changed since it was loaded, its version or its mark alone too: it is loaded again, and all that hangs on it.
func TestPoolChanged(t *testing.T) {
	for _, now := range []uint64{link(2, 5), link(2, 3), link(1, 4), link(2, 4) | 1<<63, link(3, 6), link(0, 5), link(2, 8), link(2, 9), 0} {
		for ahead := 2; ahead <= 4; ahead++ {
			b, th := full(t, list(3, 9), 3)
			b.set(poolCell, link(2, 4))
			b.set(part(2, chainPart), link(1, 0))
			b.alloc(th, api.Op{Key: 6})
			b.steps(th, ahead)
			b.set(poolCell, now)
			b.steps(th, 4-ahead)
			b.steps(th, 1)
			b.w.asked(t, swaps(ref(poolCell), val(link(2, 4)), val(link(1, 5))))
			if th.core.Queue().Len() != 0 || b.w.World.Peek(poolCell) != now {
				t.Error(now, ahead, th.core.Queue().List())
			}
			want := core.Done
			if slotOf(now) == 0 {
				want = core.Full
			} else if versionOf(now) >= 9 {
				want = core.Late
			}
			if state := b.run(th); state != want {
				t.Error(now, ahead, name(state))
			}
		}
	}
}

// P14.1: the stores of a birth, in order, of each structure: Val in a Hash alone, Top and State in a Skip alone; whatever words there were.
func TestBirth(t *testing.T) {
	for _, kind := range kinds {
		for _, o := range []api.Op{
			{}, {Kind: api.Insert, Key: 5, Level: 2}, {Kind: api.Put, Key: math.MaxUint64, Val: 1 << 63}, {Key: 1 << 63, Val: math.MaxUint64, Level: math.MaxInt},
			{Val: 3, Level: -1}, {Key: 7, Val: 8, Level: math.MinInt}, {Kind: api.Give, Key: 2, Level: 16},
		} {
			for _, conf := range each(3, 9) {
				b := benchOf(t, kind, conf, 1)
				th := b.threads[0]
				b.check(th)
				b.push(th, queue.Entry{Slot: 2, Retired: 0, Id: 0}, queue.Entry{Slot: 3})
				b.alloc(th, o)
				last, id := 3, 1
				if kind == "plain" {
					id = 0
				}
				who := soul.Who{Slot: 2, Id: id}
				want := []access{stores(by(who, birthPart), val(1)), stores(by(who, retirePart), val(0)), stores(by(who, keyPart), val(o.Key))}
				if conf.Kind == api.Hash {
					last, want = 4, append(want, stores(by(who, valPart), val(o.Val)))
				}
				if conf.Kind == api.Skip {
					last, want = 5, append(want, stores(by(who, topPart), val(uint64(o.Level))), stores(by(who, statePart), val(0)))
				}
				for i := range last {
					state := b.step(th)
					if state != core.Busy && i < last-1 || i == last-1 && state != core.Done {
						t.Fatal(kind, conf, o, i, name(state))
					}
					if i == 0 && !slices.Equal(b.w.born, []soul.Who{who}) || i > 0 && len(b.w.born) != 0 {
						t.Fatal(kind, conf, o, i, b.w.born)
					}
					b.w.asked(t, want[i])
					if got, holds := th.core.Held(); got != who || !holds || th.core.Queue().Len() != 1 {
						t.Fatal(kind, conf, o, i, got, holds)
					}
				}
			}
		}
	}
}

// P14.1: a birth stores over what stands there.
func TestBirthOver(t *testing.T) {
	b, th := at(t, skip(3, 9), 4)
	for p := range 11 {
		b.w.World.Store(ref(part(2, p)), val(100+uint64(p)))
	}
	b.words[part(2, retirePart)], b.words[part(2, chainPart)] = 101, 102
	b.push(th, queue.Entry{Slot: 2, Retired: 3})
	b.alloc(th, api.Op{Key: 50, Val: 60, Level: 3})
	b.ends(th, 5, core.Done)
	for p, want := range []uint64{4, 0, 102, 50, 104, 3, 0, 107, 108, 109, 110} {
		if got := b.w.World.Peek(part(2, p)); got != want {
			t.Error(p, got, want)
		}
	}
}

// P14.1: a slot that is born again is somebody else, by whom it is referred to.
func TestBornAgain(t *testing.T) {
	for _, kind := range kinds[1:] {
		b := benchOf(t, kind, skip(1, 99), 1)
		th := b.threads[0]
		for id := 1; id <= 5; id++ {
			for {
				b.check(th)
				b.alloc(th, api.Op{Key: uint64(id), Level: 1})
				if b.run(th) == core.Done {
					break
				}
			}
			who := b.take(th)
			if who != (soul.Who{Slot: 1, Id: id}) {
				t.Error(kind, id, who)
			}
			b.retire(th, who)
			b.ends(th, 2, core.Done)
		}
		if got := b.w.World.Peek(epochCell); got != 5 {
			t.Error(kind, got)
		}
	}
}

// P14.1: a Retire stores the epoch as it is when it is loaded, not the thread's, nor as it is when it is stored; what is no int is queued as 0.
func TestRetire(t *testing.T) {
	for _, kind := range kinds {
		for _, word := range []uint64{0, 1, 4, 5, 1 << 40, 1<<63 - 1, 1 << 63, 1<<63 + 4, math.MaxUint64} {
			b := benchOf(t, kind, hash(3, 9), 1)
			th := b.threads[0]
			b.set(epochCell, 4)
			b.check(th)
			b.push(th, queue.Entry{Slot: 1, Retired: 2, Id: 8})
			who := soul.Who{Slot: 3, Id: b.w.World.Born(3)}
			b.set(epochCell, word)
			b.retire(th, who)
			b.steps(th, 1)
			b.w.asked(t, loads(ref(epochCell)))
			if th.core.Queue().Len() != 1 {
				t.Error(kind, word, "is queued ahead of its store")
			}
			b.set(epochCell, word+1)
			b.ends(th, 1, core.Done)
			b.w.asked(t, stores(by(who, retirePart), val(word)))
			if want := []queue.Entry{{Slot: 1, Retired: 2, Id: 8}, {Slot: 3, Retired: ofInt(word), Id: who.Id}}; !slices.Equal(th.core.Queue().List(), want) {
				t.Error(kind, word, th.core.Queue().List())
			}
			if th.core.Epoch() != 4 || b.w.World.Peek(epochCell) != word+1 {
				t.Error(kind, word, th.core.Epoch())
			}
		}
	}
}

// P14.1: a Retire of whoever it is asked for; one that holds a slot goes on to hold it.
func TestRetireAnybody(t *testing.T) {
	for _, slot := range []int{1, 3, 0, 4, -1, maxSlots, math.MaxInt, math.MinInt} {
		for _, id := range []int{0, 1, -1, math.MaxInt, math.MinInt} {
			b, th := at(t, list(3, 9), 4)
			th.held, th.holds = soul.Who{Slot: 2, Id: 6}, true
			th.core.Hold(th.held)
			who := soul.Who{Slot: slot, Id: id}
			b.retire(th, who)
			b.ends(th, 2, core.Done)
			b.w.asked(t, stores(by(who, retirePart), val(4)))
		}
	}
}

// entries are so many slots, retired in epochs below 4.
func entries(n int) []queue.Entry {
	var all []queue.Entry
	for s := range n {
		all = append(all, queue.Entry{Slot: s + 1, Retired: s % 4})
	}
	return all
}

// P14.1: a Give of an empty queue is a checkpoint alone, whatever the pool is.
func TestGiveNone(t *testing.T) {
	for _, kind := range kinds {
		for _, pool := range []uint64{0, link(2, 1), link(2, 9), math.MaxUint64} {
			for _, epoch := range []uint64{0, 1, 7, 9, 1 << 63} {
				b := benchOf(t, kind, list(3, 9), 1)
				th := b.threads[0]
				b.set(poolCell, pool)
				b.set(epochCell, epoch)
				g := b.give(th)
				if g.Given() != 0 {
					t.Error(kind, g.Given())
				}
				b.ends(th, 1, core.Done)
				b.w.asked(t, loads(ref(epochCell)))
				if g.Given() != 0 || th.core.Epoch() != ofInt(epoch) || b.w.World.Peek(poolCell) != pool {
					t.Error(kind, pool, epoch, g.Given(), th.core.Epoch())
				}
			}
		}
	}
}

// P14.1: a Give of one slot, of some, of all: each one ahead of what is in the pool, the head of the queue first, whenever it was retired; what is held stays.
func TestGive(t *testing.T) {
	for n := 1; n <= 7; n++ {
		for _, old := range []uint64{0, link(0, 3), link(8, 0), link(8, 5), link(8, 5) | 1<<63} {
			b, th := at(t, hash(9, 99), 2)
			b.push(th, entries(n)...)
			th.held, th.holds = soul.Who{Slot: 9}, true
			th.core.Hold(th.held)
			b.set(poolCell, old)
			b.set(epochCell, 6)
			g := b.give(th)
			b.steps(th, 1)
			b.w.asked(t, loads(ref(epochCell)))
			for i := range n {
				if g.Given() != i || th.core.Queue().Len() != n-i {
					t.Fatal(n, i, g.Given())
				}
				now := b.w.World.Peek(poolCell)
				b.steps(th, 1)
				b.w.asked(t, loads(ref(poolCell)))
				b.steps(th, 1)
				b.w.asked(t, stores(ref(part(i+1, chainPart)), val(link(slotOf(now), 0))))
				want := core.Busy
				if i == n-1 {
					want = core.Done
				}
				if g.Given() != i || th.core.Queue().Len() != n-i {
					t.Fatal(n, i, g.Given())
				}
				b.ends(th, 1, want)
				b.w.asked(t, swaps(ref(poolCell), val(now), val(link(i+1, versionOf(old)+i+1))))
			}
			if g.Given() != n || th.core.Queue().Len() != 0 || th.core.Epoch() != 6 {
				t.Error(n, g.Given(), th.core.Queue().List(), th.core.Epoch())
			}
		}
	}
}

// P14.1: what is given has its own Id in the pool, and what stands behind it that one's; so it comes out again.
func TestGiveIds(t *testing.T) {
	for _, kind := range kinds[1:] {
		k := seenBy(t, kind, list(3, 99))
		b, two := k.b, k.b.threads[1]
		for i, slot := range []int{3, 2, 1} {
			if got := b.w.World.Load(ref(poolCell)); got != (world.Val{Word: link(slot, 3+i), Id: slot}) {
				t.Error(kind, i, got)
			}
			next := world.Val{Word: link(slot-1, 0), Id: slot - 1}
			if got := b.w.World.Load(by(soul.Who{Slot: slot, Id: slot}, chainPart)); got != next {
				t.Error(kind, i, got, next)
			}
			k.come(two, core.Done)
			if who := b.take(two); who != (soul.Who{Slot: slot, Id: 4 + i}) {
				t.Error(kind, i, who)
			}
		}
		if got := b.w.World.Load(ref(poolCell)); got != (world.Val{Word: link(0, 6)}) {
			t.Error(kind, got)
		}
	}
}

// P14.1: a POOL whose version is Limit or more ends a Give Late, at its first slot or at a later one; what was given is counted, the others stay.
func TestGiveLate(t *testing.T) {
	for _, limit := range []int{2, 9, maxEpoch} {
		for left := -1; left <= 5; left++ {
			b, th := at(t, list(5, limit), 2)
			b.push(th, entries(4)...)
			version := max(0, min(limit-left, maxEpoch))
			b.set(poolCell, link(5, version))
			g := b.give(th)
			given := min(4, max(0, limit-version))
			want := core.Late
			if given == 4 {
				want = core.Done
			}
			if state := b.run(th); state != want || g.Given() != given {
				t.Error(limit, version, name(state), g.Given(), given)
			}
			if got := th.core.Queue().List(); !slices.Equal(got, entries(4)[given:]) {
				t.Error(limit, version, got)
			}
			if got := versionOf(b.w.World.Peek(poolCell)); got != version+given {
				t.Error(limit, version, got)
			}
		}
	}
}

// P14.1: a Give that another thread's is ahead of looks at the pool anew, and leads to what that one brought.
func TestGiveBehind(t *testing.T) {
	for _, kind := range kinds {
		for ahead := 2; ahead <= 3; ahead++ {
			for n := 1; n <= 2; n++ {
				b := benchOf(t, kind, list(4, 9), 2)
				one, two := b.threads[0], b.threads[1]
				b.push(one, queue.Entry{Slot: 1}, queue.Entry{Slot: 2})
				b.push(two, entries(4)[2:2+n]...)
				g := b.give(one)
				b.steps(one, ahead)
				b.give(two)
				b.run(two)
				b.steps(one, 3-ahead)
				b.steps(one, 1)
				if one.tell.row != "g1" || g.Given() != 0 || one.core.Queue().Len() != 2 {
					t.Error(kind, ahead, one.tell.row, g.Given())
				}
				if state := b.run(one); state != core.Done || g.Given() != 2 {
					t.Error(kind, ahead, name(state), g.Given())
				}
				if pool := keeperOf(b).pool(); !slices.Equal(pool, append([]int{2, 1}, []int{4, 3}[2-n:]...)) {
					t.Error(kind, ahead, pool)
				}
			}
		}
	}
}

// P14.1: a Give's swap isn't done if the pool's version alone is another one, though the same slot is its first again.
func TestGiveAfterAll(t *testing.T) {
	for _, now := range []uint64{link(3, 6), link(3, 4), link(3, 5) | 1<<63, link(4, 5), link(0, 5), 0} {
		b, th := at(t, list(4, 9), 2)
		b.push(th, queue.Entry{Slot: 1})
		b.set(poolCell, link(3, 5))
		b.give(th)
		b.steps(th, 3)
		b.set(poolCell, now)
		b.steps(th, 1)
		if th.core.Queue().Len() != 1 || b.w.World.Peek(poolCell) != now {
			t.Error(now, th.core.Queue().List())
		}
		b.ends(th, 3, core.Done)
		if got := b.w.World.Peek(poolCell); got != link(1, versionOf(now)+1) {
			t.Error(now, got)
		}
	}
}

// P14.1: each Give counts its own alone.
func TestGivenApart(t *testing.T) {
	b, th := at(t, list(4, 99), 2)
	b.push(th, entries(3)...)
	first := b.give(th)
	b.run(th)
	b.push(th, queue.Entry{Slot: 4})
	second := b.give(th)
	if first.Given() != 3 || second.Given() != 0 {
		t.Error(first.Given(), second.Given())
	}
	b.run(th)
	if first.Given() != 3 || second.Given() != 1 {
		t.Error(first.Given(), second.Given())
	}
}

// P14.2: a thread that loaded the pool ahead of others doesn't take what they took, though the same slot is the pool's first again.
func TestPoolAndBack(t *testing.T) {
	for _, kind := range kinds {
		k := seenBy(t, kind, list(2, 99))
		b, one, two := k.b, k.b.threads[0], k.b.threads[1]
		b.check(one)
		b.alloc(one, api.Op{Key: 6})
		b.steps(one, 4)
		// Both are taken out, and the one that was the first comes back alone.
		k.come(two, core.Done)
		first := b.take(two)
		k.come(two, core.Done)
		k.retire(two, first)
		k.give(two)
		if now := k.pool(); !slices.Equal(now, []int{2}) {
			t.Fatal(kind, now)
		}
		k.step(one)
		if one.tell.row != "p1" || one.core.Queue().Len() != 0 || one.tell.h.Word>>40 != 2 || slotOf(one.tell.n.Word) != 1 {
			t.Error(kind, one.tell.row, one.core.Queue().List(), one.tell.h, one.tell.n)
		}
		for state := core.Busy; state == core.Busy; {
			state = k.step(one)
		}
	}
}

// P14.3: what a thread retired comes back in the order in which it did, all of it by as many Allocs as there are slots.
func TestComesBack(t *testing.T) {
	for _, kind := range kinds {
		for slots := 1; slots <= 6; slots++ {
			k := keeperOf(benchOf(t, kind, list(slots, 9999), 1))
			th := k.b.threads[0]
			var out []soul.Who
			for i := range 5 * slots {
				k.come(th, core.Done)
				who := k.b.take(th)
				if who.Slot != 1+i%slots || kind != "plain" && who.Id != i+1 {
					t.Error(kind, slots, i, who)
				}
				out = append(out, who)
				if len(out) == slots {
					k.retire(th, out[0])
					out = out[1:]
				}
			}
			if k.back != 4*slots {
				t.Error(kind, slots, k.back, "came back")
			}
		}
	}
}

// P14.3: the longest wait is as many Allocs as there are slots: all others stand ahead of the one that is retired last.
func TestLongest(t *testing.T) {
	for slots := 1; slots <= 6; slots++ {
		k := keeperOf(benchOf(t, "ghost", list(slots, 99), 1))
		th := k.b.threads[0]
		var out []soul.Who
		for range slots {
			k.come(th, core.Done)
			out = append(out, k.b.take(th))
		}
		for _, who := range out {
			k.retire(th, who)
		}
		for i, was := range out {
			if k.back != i {
				t.Error(slots, i, k.back)
			}
			k.come(th, core.Done)
			if who := k.b.take(th); who.Slot != was.Slot {
				t.Error(slots, i, who, was)
			}
		}
	}
}

// P14.4: Full as long as all are held, queued by another thread, or out; not any more once one is in the pool, or the thread's own.
func TestFullOnly(t *testing.T) {
	for _, kind := range kinds {
		k := keeperOf(benchOf(t, kind, list(3, 99), 3))
		b := k.b
		one, two, three := b.threads[0], b.threads[1], b.threads[2]
		for _, th := range b.threads {
			k.come(th, core.Done)
		}
		out := b.take(three)
		k.come(three, core.Full)
		b.drop(two)
		k.come(three, core.Full)
		k.give(two)
		k.come(three, core.Done)
		b.take(three)
		k.come(two, core.Full)
		b.retire(two, out)
		k.come(three, core.Full)
		k.step(two)
		k.come(three, core.Full)
		k.step(two)
		k.come(three, core.Full)
		k.come(two, core.Done)
		if k.full != 6 || !one.holds {
			t.Error(kind, k.full)
		}
	}
}

// P14.1, rule 3: what was handed in isn't kept: two machines of one thread, or of two, have each their own op; and an Alloc goes by its thread's epoch as it is.
func TestApart(t *testing.T) {
	b := benchOf(t, "ghost", hash(4, 9), 2)
	one, two := b.threads[0], b.threads[1]
	b.check(one)
	b.check(two)
	b.alloc(one, api.Op{Key: 5, Val: 6})
	b.alloc(two, api.Op{Key: 7, Val: 8})
	for range 5 {
		b.step(one)
		b.step(two)
	}
	for slot, want := range [][2]uint64{1: {5, 6}, 2: {7, 8}} {
		if slot > 0 && (b.w.World.Peek(part(slot, keyPart)) != want[0] || b.w.World.Peek(part(slot, valPart)) != want[1]) {
			t.Error(slot, b.w.World.Peek(part(slot, keyPart)), b.w.World.Peek(part(slot, valPart)))
		}
	}
}

// P14.1, rule 5: of nil New answers nil and Done, NewRetire and NewGive nil; Step is Done, Given 0, and there is no access, again and again.
func TestNil(t *testing.T) {
	for _, kind := range kinds {
		inner := made(kind)
		world.Start(inner)
		w := &watched{World: inner}
		before := inner.Count()
		x := numbers(7)
		for _, slot := range []int{0, 1, -1, math.MaxInt, math.MinInt} {
			if a, state := alloc.New(nil, opOf(&x)); a != nil || state != core.Done {
				t.Error(kind, a, name(state))
			}
			if r := alloc.NewRetire(nil, soul.Who{Slot: slot, Id: 3}); r != nil {
				t.Error(kind, slot, r)
			}
			if g := alloc.NewGive(nil); g != nil {
				t.Error(kind, g)
			}
			var a *alloc.Alloc
			var r *alloc.Retire
			var g *alloc.Give
			for range 3 {
				for i, m := range []machine{a, r, g} {
					if state := m.Step(w); state != core.Done {
						t.Error(kind, i, name(state))
					}
					if state := m.Step(nil); state != core.Done {
						t.Error(kind, i, name(state))
					}
				}
				if g.Given() != 0 {
					t.Error(kind, g.Given())
				}
			}
		}
		w.idle(t)
		if inner.Count() != before {
			t.Error(kind, inner.Count(), before)
		}
	}
}

// around is a world of another package, with a world in it: of nil, and around none, it panics.
type around struct{ world.World }

// ready are machines that stand ahead of each of their rows, of threads of their own, in a world.
func ready(w world.World, conf api.Config) []machine {
	var all []machine
	for n := range 9 {
		for _, own := range [][]queue.Entry{nil, {{Slot: 1}}, {{Slot: 2, Retired: 5}}, {{Slot: 3}, {Slot: 4, Retired: 1}}, {{Slot: -1}}, {{Slot: math.MaxInt}}, {{Slot: math.MinInt, Id: -1}}} {
			c := core.New(conf)
			c.Check(w)
			c.Queue().Push(own...)
			a, _ := alloc.New(c, api.Op{Key: 5, Level: 1})
			for i, m := range []machine{a, alloc.NewRetire(c, soul.Who{Slot: n - 1}), alloc.NewGive(c)} {
				for range n {
					m.Step(w)
				}
				if i > 0 || a != nil {
					all = append(all, m)
				}
			}
		}
	}
	return all
}

// P1: no step panics, whatever world is handed in, behind whichever step, and behind the last one.
func TestWorldOfNone(t *testing.T) {
	var p *world.Plain
	var g *ghost.Ghost
	var i *ideal.Ideal
	var s *shade.Shade
	var a *around
	var n *watched
	for _, none := range []world.World{nil, p, g, i, s, a, around{}, &around{}, around{p}, &around{a}, n} {
		for _, conf := range each(2, 2) {
			for _, kind := range kinds {
				w := made(kind)
				world.Start(w)
				w.Store(ref(freshCell), val(1))
				w.Store(ref(poolCell), val(link(2, 0)))
				for _, m := range ready(w, conf) {
					for range 9 {
						m.Step(none)
						m.Step(w)
					}
				}
			}
		}
	}
}

// P1: a step in no world makes no access, and leaves what the thread has: it is made in the next one.
func TestNoWorld(t *testing.T) {
	for _, none := range []world.World{nil, around{}, (*around)(nil)} {
		for _, conf := range each(2, 9) {
			b := benchOf(t, "ghost", conf, 1)
			th := b.threads[0]
			for range 4 {
				b.check(th)
				if b.alloc(th, api.Op{Key: 5, Level: 1}) == core.Busy {
					stepBeside(b, th, none)
				}
				if th.core.Queue().Len() > 0 && !th.holds {
					continue
				}
				who := b.take(th)
				b.retire(th, who)
				stepBeside(b, th, none)
			}
		}
	}
}

// stepBeside makes a machine's steps, each behind one in no world.
func stepBeside(b *bench, th *thread, none world.World) {
	for th.machine != nil {
		if state := th.machine.Step(none); state != core.Busy {
			b.t.Fatal("a step in no world is", name(state))
		}
		b.same()
		b.step(th)
	}
}

// P1: behind its last step a machine makes no access any more, and stands as it did.
func TestBehindEnd(t *testing.T) {
	k := seenBy(t, "ghost", list(2, 4))
	b, one, two := k.b, k.b.threads[0], k.b.threads[1]
	var last machine
	still := func(want core.State) {
		t.Helper()
		b.w.forget()
		for range 3 {
			if state := last.Step(b.w); state != want {
				t.Error(name(state), "not", name(want))
			}
			b.same()
		}
		b.w.idle(t)
	}
	begin := func(th *thread) {
		b.check(th)
		b.alloc(th, api.Op{Key: 5})
		last = th.machine
	}
	for range 2 {
		begin(two)
		b.run(two)
		still(core.Done)
		b.take(two)
	}
	b.set(poolCell, link(1, 4))
	begin(one)
	b.ends(one, 2, core.Late)
	still(core.Late)
	b.set(poolCell, 0)
	begin(one)
	b.ends(one, 2, core.Full)
	still(core.Full)
	b.retire(two, soul.Who{Slot: 1, Id: 4})
	last = two.machine
	b.ends(two, 2, core.Done)
	still(core.Done)
	begin(two)
	b.ends(two, 1, core.Again)
	still(core.Again)
	last = b.give(two)
	b.ends(two, 4, core.Done)
	still(core.Done)
	b.push(two, queue.Entry{Slot: 2})
	b.set(poolCell, link(1, 4))
	last = b.give(two)
	b.ends(two, 2, core.Late)
	still(core.Late)
}

// P1: no call panics, of a machine that no call made either, and of a thread that none did.
func TestZero(t *testing.T) {
	w := world.New()
	for range 3 {
		for _, m := range []machine{&alloc.Alloc{}, &alloc.Retire{}, &alloc.Give{}} {
			m.Step(w)
			m.Step(nil)
		}
		(&alloc.Give{}).Given()
	}
	if w.Count() != (cell.Count{}) {
		t.Error(w.Count())
	}
	c := &core.Core{}
	alloc.New(c, api.Op{})
	for _, m := range []machine{alloc.NewRetire(c, soul.Who{Slot: 1}), alloc.NewGive(c)} {
		for range 4 {
			m.Step(w)
		}
	}
	if a, _ := alloc.New(c, api.Op{}); a != nil {
		for range 9 {
			a.Step(w)
		}
	}
}

// Rule 8, P1: machines that are mixed up, of one thread at once and by turns in several worlds, promise nothing, but none of their calls panics.
func TestMixed(t *testing.T) {
	x := numbers(8)
	for _, conf := range each(2, 3) {
		var worlds []world.World
		for _, kind := range kinds {
			worlds = append(worlds, made(kind))
		}
		threads := []*core.Core{core.New(conf), core.New(conf)}
		var machines []machine
		for range 3000 {
			c, w := one(&x, threads), one(&x, worlds)
			switch x.below(9) {
			case 0:
				if a, _ := alloc.New(c, opOf(&x)); a != nil {
					machines = append(machines, a)
				}
			case 1:
				machines = append(machines, alloc.NewRetire(c, soul.Who{Slot: x.below(5) - 1, Id: x.below(5) - 1}))
			case 2:
				machines = append(machines, alloc.NewGive(c))
			case 3:
				c.Take()
				c.Queue().Pop()
			case 4:
				c.Check(w)
			default:
				if len(machines) > 0 {
					one(&x, machines).Step(w)
				}
			}
		}
	}
}
