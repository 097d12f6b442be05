package skip_test

import (
	"math"
	"testing"

	"revenant/api"
	"revenant/core"
	"revenant/ghost"
	"revenant/ideal"
	"revenant/queue"
	"revenant/shade"
	"revenant/skip"
	"revenant/soul"
	"revenant/world"
)

// P19.1: nothing at all: nil of a nil thread, and every method of nil.
func TestNil(t *testing.T) {
	for _, o := range []api.Op{has(5), insert(5, 1), remove(5), {}, {Kind: api.Give}} {
		if skip.New(nil, o) != nil {
			t.Error(o)
		}
	}
	var op *skip.Op
	for _, kind := range kinds {
		w := &watched{World: made(kind)}
		for range 3 {
			for _, w := range []world.World{w, nil} {
				if state := op.Step(w); state != core.Done {
					t.Error(kind, name(state))
				}
			}
			if op.Answer() != no {
				t.Error(kind, op.Answer())
			}
		}
		w.idle(t)
	}
}

// P19.1: what can't be asked of a skip list, a Give, and structures that are none.
func TestCannot(t *testing.T) {
	for kind := -1; kind <= 10; kind++ {
		for _, key := range []uint64{0, 5, math.MaxUint64} {
			for _, value := range []uint64{0, 1, math.MaxUint64} {
				for _, level := range []int{0, 1, 2, 3, 4, 16, 17, -1, math.MaxInt, math.MinInt} {
					o := api.Op{Kind: kind, Key: key, Val: value, Level: level}
					for _, conf := range []api.Config{tall(4, 1), tall(1, 3), tall(maxSlots, maxHeight), limited(3, 2, 2)} {
						can := value == 0 && (kind == api.Insert && level >= 1 && level <= conf.Height || (kind == api.Delete || kind == api.Has) && level == 0)
						if (skip.New(core.New(conf), o) != nil) != can {
							t.Error(conf, o, "can be asked:", !can)
						}
					}
					for _, conf := range []api.Config{list(4), hash(4)} {
						if skip.New(core.New(conf), o) != nil {
							t.Error(conf, o, "is asked")
						}
					}
				}
			}
		}
	}
	for _, conf := range []api.Config{{}, tall(0, 1), tall(4, 0), tall(4, 17), limited(4, 1, 1)} {
		if skip.New(core.New(conf), has(5)) != nil {
			t.Error(conf, "is asked")
		}
	}
}

// P19.1: New makes no access, and changes nothing of its thread; nor does an Answer.
func TestNewAlone(t *testing.T) {
	b, th := at(t, "ghost", tall(4, 3), 6)
	b.hold(th, soul.Who{Slot: 2, Id: 1})
	b.push(th, queue.Entry{Slot: 3, Retired: 6, Id: 4})
	for _, o := range []api.Op{has(5), insert(5, 1), insert(5, 3), remove(5)} {
		p := b.begin(th, o)
		for range 3 {
			if p.Answer() != no {
				t.Error(p.Answer())
			}
		}
		b.w.idle(t)
		b.same(th)
	}
}

// P19.1: the epochs of which links can be, and those of which none can: what is stored, swapped in and marked is what layers 2 and 13 make of them.
func TestEpochs(t *testing.T) {
	for _, kind := range kinds {
		for _, epoch := range []uint64{0, 1, 2, maxEpoch - 1, maxEpoch, maxEpoch + 1, math.MaxInt} {
			for _, o := range []api.Op{insert(5, 3), remove(4)} {
				b, _, _, _ := stand(t, kind, o, "c")
				a := b.threads[0]
				b.put(ref(epochCell), epoch)
				for n := 0; n < 400 && a.tell != nil; n++ {
					b.step(a)
				}
				if epoch <= maxEpoch && (a.tell != nil || a.answer != yes) {
					t.Error(kind, epoch, o, a.answer)
				}
			}
		}
	}
}

// broken is a world that panics.
type broken struct{ world.World }

// P1: steps in worlds that are nil, or panic, make nothing and end; what wasn't made is made then.
func TestBroken(t *testing.T) {
	worlds := []world.World{nil, (*world.Plain)(nil), (*ghost.Ghost)(nil), (*ideal.Ideal)(nil), (*shade.Shade)(nil), (*broken)(nil), broken{}}
	for _, w := range worlds {
		for row := range 60 {
			for _, o := range []api.Op{has(5), insert(5, 3), insert(4, 2), remove(5), remove(4)} {
				b, _, _, _ := stand(t, "plain", o, "c")
				p := b.threads[0].op
				for range row {
					p.Step(b.w)
				}
				for range 30 {
					p.Step(w)
					p.Answer()
				}
			}
		}
	}
	for row, o := range map[string]api.Op{"s 1": insert(5, 3), "t": insert(5, 3), "u 1": insert(5, 3), "u 2": insert(5, 3), "z": insert(5, 3), "e": remove(4), "f 1": remove(4), "f2 1": remove(4), "g": remove(4), "g2": remove(4), "h": remove(4)} {
		b, _, _, _ := stand(t, "plain", o, row)
		a := b.threads[0]
		for range 3 {
			if state := a.op.Step(nil); state != core.Busy {
				t.Error(row, name(state))
			}
		}
		b.same(a)
		b.at(a, row)
		b.run(a)
		if a.answer != yes {
			t.Error(row, a.answer)
		}
	}
}

// P1: no call panics, of an op that no call made either, and of a thread that none did.
func TestZero(t *testing.T) {
	w := world.New()
	o := &skip.Op{}
	for range 4 {
		o.Step(nil)
		o.Step(w)
		o.Answer()
	}
	if o := skip.New(&core.Core{}, has(5)); o != nil {
		t.Error(o)
	}
	if n := w.Count(); n.Loads != 0 || n.Stores != 0 || n.Swaps != 0 || n.Adds != 0 {
		t.Error(n)
	}
}

// Rule 8, P1: ops that are mixed up, of one thread at once and by turns in several worlds, promise nothing, but none of their calls panics.
func TestMixed(t *testing.T) {
	x := numbers(8)
	for _, conf := range []api.Config{tall(3, 1), tall(3, 3), limited(3, 16, 2)} {
		var worlds []world.World
		for _, kind := range kinds {
			b, _ := at(t, kind, conf, 1)
			b.lay(1, tower(1, 1, conf.Height), tower(2, 2, 1))
			worlds = append(worlds, b.w.World)
		}
		threads := []*core.Core{core.New(conf), core.New(conf)}
		made := []*skip.Op{nil}
		for range 9000 {
			c, w, o := one(&x, threads), one(&x, worlds), one(&x, made)
			switch x.below(20) {
			case 0:
				made = append(made, skip.New(c, one(&x, ops(uint64(x.below(4)), conf.Height))))
			case 1:
				c.Check(w)
			case 2:
				c.Drop()
			case 3:
				o.Answer()
			case 4:
				w.Store(ref(epochCell), val(uint64(x.below(3))))
			case 5:
				c.Hold(soul.Who{Slot: x.below(4), Id: x.below(3)})
			default:
				o.Step(w)
			}
		}
	}
}

// Rule 4: ops of two threads go each their own way, and one behind another of the same thread tells nothing of it, nor does the first one of the second.
func TestApart(t *testing.T) {
	for _, kind := range kinds {
		b := benchOf(t, kind, tall(9, 3), 2)
		a, z := b.threads[0], b.threads[1]
		p, q := b.begin(a, insert(5, 3)), b.begin(z, insert(7, 2))
		for a.tell != nil || z.tell != nil {
			for _, th := range b.threads {
				if th.tell != nil {
					b.step(th)
				}
			}
		}
		b.ask(a, remove(7), yes)
		b.ask(a, insert(5, 1), no)
		b.ask(z, has(7), no)
		if p.Answer() != yes || q.Answer() != yes {
			t.Error(kind, p.Answer(), q.Answer())
		}
		b.has(5)
		b.clean()
	}
}
