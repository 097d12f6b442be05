package seek_test

import (
	"math"
	"slices"
	"testing"

	"revenant/api"
	"revenant/core"
	"revenant/ghost"
	"revenant/ideal"
	"revenant/seek"
	"revenant/shade"
	"revenant/soul"
	"revenant/world"
)

// The example: an empty list: a checkpoint, w, validate: Done, not found.
func TestExample(t *testing.T) {
	for _, kind := range kinds {
		for _, values := range []bool{false, true} {
			w := &watched{World: made(kind)}
			world.Start(w)
			w.forget()
			c := core.New(list(4))
			s := seek.NewSearch(c, 0, 5, values)
			if s == nil || s.Lane() != nil {
				t.Fatal(kind, s)
			}
			w.idle(t)
			for i, want := range []core.State{core.Busy, core.Busy, core.Done} {
				if state := s.Step(w); state != want {
					t.Error(kind, i, name(state))
				}
				w.asked(t, []access{valid, loads(ref(root(0))), valid}[i])
			}
			l := s.Lane()
			if l.Found() || l.Who() != (soul.Who{}) || l.At() != ref(root(0)) || l.Into() != val(0) || l.Out() != val(0) || l.Val() != 0 {
				t.Error(kind, l)
			}
			if c.Epoch() != 1 || c.Rolls() != 0 {
				t.Error(kind, c.Epoch(), c.Rolls())
			}
		}
	}
}

// P15.1: the table told access by access, over a list with slots that are marked ahead of the key, and behind it.
func TestTable(t *testing.T) {
	for _, kind := range kinds {
		for _, values := range []bool{false, true} {
			b, th := at(t, kind, hash(9), 6)
			it, links := b.lay(2, 0, 4, item{slot: 3, key: 1}, item{slot: 8, key: 2, out: true}, item{slot: 1, key: 3, out: true}, item{slot: 5, key: 4}, item{slot: 2, key: 5, val: 77}, item{slot: 9, key: 6, out: true})
			s := seek.NewSearch(th.core, 2, 5, values)
			next := func(i int) world.At { return by(it[i].who(), nextPart) }
			load := func(at world.At) {
				t.Helper()
				if state := s.Step(b.w); state != core.Busy {
					t.Fatal(name(state))
				}
				b.w.asked(t, loads(at))
				s.Step(b.w)
				b.w.asked(t, valid)
			}
			s.Step(b.w)
			b.w.asked(t, valid)
			load(ref(root(2)))
			load(next(0))
			load(by(it[0].who(), keyPart))
			load(next(1))
			s.Step(b.w)
			// The link that is swapped in is one of the thread's epoch, to whom the marked one leads.
			first := world.Val{Word: link(1, 6), Id: it[2].id}
			b.w.asked(t, swaps(next(0), world.Val{Word: links[1].Word, Id: links[1].Id}, first))
			load(next(2))
			s.Step(b.w)
			second := world.Val{Word: link(5, 6), Id: it[3].id}
			b.w.asked(t, swaps(next(0), first, second))
			load(next(3))
			load(by(it[3].who(), keyPart))
			load(next(4))
			load(by(it[4].who(), keyPart))
			want := uint64(0)
			if values {
				load(by(it[4].who(), valPart))
				want = 77
			}
			l := s.Lane()
			if s.Step(b.w) != core.Done || !l.Found() || l.Who() != it[4].who() || l.At() != next(3) || l.Into() != links[4] || l.Out() != links[5] || l.Val() != want {
				t.Error(kind, values, l.Found(), l.Who(), l.At(), l.Into(), l.Out(), l.Val())
			}
			b.w.idle(t)
			if got := b.linked(2, 0); !slices.Equal(got, []int{3, 5, 2, 9}) {
				t.Error(kind, values, got)
			}
		}
	}
}

// P15.1: the first link has a mark: a lane ends Again behind its validation, wherever it leads; a search begins again, as often as that is so.
func TestMarkedFirst(t *testing.T) {
	for _, kind := range kinds {
		for _, slot := range []int{0, 1, 7, maxSlots} {
			b, th := at(t, kind, list(3), 5)
			b.w.put(ref(root(0)), link(slot, 5)|mark)
			b.lane(th, ref(root(0)), 0, 5, false)
			b.ends(th, 2, core.Again)
			b.find(th, 0, 5, true)
			for range 9 {
				b.steps(th, 3)
				if th.tell.row != "c" {
					t.Fatal(kind, slot, th.tell.row)
				}
			}
			b.lay(0, 0, 5, item{slot: 2, key: 5, val: 8})
			b.ends(th, 9, core.Done)
			if l := th.lane; !l.Found() || l.Val() != 8 || th.rolls != 0 {
				t.Error(kind, slot, l, th.rolls)
			}
		}
	}
}

// P15.1: a lane whose reference is a slot's own link, the slot out of its list: Again; not out: it goes on from there.
func TestFromSlot(t *testing.T) {
	for _, kind := range kinds {
		for _, level := range []int{0, 1, 3, 15} {
			b, th := at(t, kind, skip(9), 5)
			it, _ := b.lay(0, level, 5, item{slot: 4, key: 1}, item{slot: 2, key: 3, out: true}, item{slot: 7, key: 5})
			b.lane(th, by(it[1].who(), nextPart+level), level, 5, false)
			b.ends(th, 2, core.Again)
			b.lane(th, by(it[0].who(), nextPart+level), level, 5, false)
			b.ends(th, 9, core.Done)
			into := world.Val{Word: link(7, 5), Id: it[2].id}
			if l := th.lane; !l.Found() || l.Who() != it[2].who() || l.At() != by(it[0].who(), nextPart+level) || l.Into() != into {
				t.Error(kind, level, l.Found(), l.Who(), l.At(), l.Into())
			}
			// The link behind the last one leads to nobody: what is asked for there alone is that link.
			b.lane(th, by(it[2].who(), nextPart+level), level, 0, false)
			b.ends(th, 2, core.Done)
			if th.lane.Found() || th.lane.Who() != (soul.Who{}) || th.lane.At() != by(it[2].who(), nextPart+level) {
				t.Error(kind, level, th.lane)
			}
		}
	}
}

// P15.1: a link to the slot 0 is the end, whatever its version and whoever its Id is: at the first link, behind a slot, and behind a cut.
func TestToNobody(t *testing.T) {
	for _, kind := range kinds {
		for _, version := range []int{0, 1, 5, maxEpoch} {
			for _, id := range []int{0, 1, 4, -1, math.MaxInt} {
				none := world.Val{Word: link(0, version), Id: id}
				if kind == "plain" {
					none.Id = 0
				}
				b, th := at(t, kind, list(3), 5)
				b.w.World.Store(ref(root(0)), none)
				b.lane(th, ref(root(0)), 0, 5, true)
				b.ends(th, 2, core.Done)
				if l := th.lane; l.Who() != (soul.Who{}) || l.Into() != none || l.Out() != val(0) {
					t.Error(kind, none, l.Who(), l.Into(), l.Out())
				}
				it, _ := b.lay(0, 0, 5, item{slot: 2, key: 4})
				b.w.World.Store(by(it[0].who(), nextPart), none)
				b.lane(th, ref(root(0)), 0, 5, true)
				b.ends(th, 6, core.Done)
				if l := th.lane; l.Who() != (soul.Who{}) || l.Into() != none || l.Out() != val(0) || l.At() != by(it[0].who(), nextPart) {
					t.Error(kind, none, l.Who(), l.Into(), l.Out(), l.At())
				}
				none.Word |= mark
				b.w.World.Store(by(it[0].who(), nextPart), none)
				b.lane(th, ref(root(0)), 0, 5, true)
				b.ends(th, 5, core.Done)
				none.Word = link(0, 5)
				if l := th.lane; l.Who() != (soul.Who{}) || l.Into() != none || l.Out() != val(0) || l.At() != ref(root(0)) {
					t.Error(kind, none, l.Who(), l.Into(), l.Out(), l.At())
				}
			}
		}
	}
}

// P15.1: keys below, at and above the key, and at both ends of a word, as numbers without a sign.
func TestKeys(t *testing.T) {
	ends := []uint64{0, 1, 2, 5, 1<<31 - 1, 1 << 31, 1<<32 + 5, 1<<63 - 1, 1 << 63, 1<<63 + 1, math.MaxUint64 - 1, math.MaxUint64}
	for _, kind := range kinds {
		for _, values := range []bool{false, true} {
			for _, key := range ends {
				for _, there := range ends {
					b, th := at(t, kind, list(3), 5)
					it, _ := b.lay(0, 0, 5, item{slot: 2, key: there, val: ^there})
					l := b.lane(th, ref(root(0)), 0, key, values)
					switch n := 6; {
					case there < key:
						b.ends(th, n, core.Done)
						if l.Found() || l.Who() != (soul.Who{}) || l.At() != by(it[0].who(), nextPart) || l.Val() != 0 {
							t.Error(kind, key, there, l)
						}
					case there == key && values:
						b.ends(th, n+2, core.Done)
						if !l.Found() || l.Who() != it[0].who() || l.Val() != ^there {
							t.Error(kind, key, there, l)
						}
					default:
						b.ends(th, n, core.Done)
						if l.Found() != (there == key) || l.Who() != it[0].who() || l.At() != ref(root(0)) || l.Val() != 0 {
							t.Error(kind, key, there, l)
						}
					}
				}
			}
		}
	}
}

// P15.1: the value is the word that stands there, if the key is found and the lane is for values; else 0, and it isn't loaded.
func TestValues(t *testing.T) {
	for _, kind := range kinds {
		for _, word := range []uint64{0, 1, 5, 1 << 40, 1<<63 - 1, 1 << 63, math.MaxUint64} {
			for key := uint64(0); key <= 6; key++ {
				for _, values := range []bool{false, true} {
					b, th := at(t, kind, hash(3), 5)
					b.lay(1, 0, 5, item{slot: 2, key: 1, val: ^word}, item{slot: 3, key: 3, val: word}, item{slot: 1, key: 5, val: word + 1})
					b.find(th, 1, key, values)
					b.run(th)
					want, loaded := uint64(0), false
					if values && key%2 == 1 {
						want, loaded = []uint64{^word, word, word + 1}[key/2], true
					}
					if th.lane.Val() != want || th.lane.Found() != (key%2 == 1) || slices.ContainsFunc(b.w.all, func(e event) bool { return e.at.Part == valPart && e.at.Kind == 5 }) != loaded {
						t.Error(kind, word, key, values, th.lane.Val(), b.w.all)
					}
				}
			}
		}
	}
}

// P15.1: behind each load the epoch is the thread's, or another one: below, above, one that can't be, and the same again.
func TestValid(t *testing.T) {
	for _, kind := range kinds {
		for _, epoch := range []uint64{0, 1, 6, maxEpoch, maxEpoch + 1, math.MaxInt} {
			for _, now := range []uint64{0, 1, 5, 6, 7, maxEpoch, maxEpoch + 1, 1<<32 + 6, math.MaxInt, 1 << 63, 1<<63 + 6, math.MaxUint64} {
				// The loads of w, x, k, x, x behind a cut, k, v stand ahead of these steps.
				for _, n := range []int{1, 3, 5, 7, 10, 12, 14} {
					for _, late := range []bool{false, true} {
						validAt(t, kind, epoch, now, n, late)
					}
				}
			}
		}
	}
}

// validAt turns the epoch behind so many steps; late: a step before that, ahead of the load.
func validAt(t *testing.T, kind string, epoch, now uint64, n int, late bool) {
	b, th := at(t, kind, hash(9), epoch)
	b.lay(1, 0, 4, item{slot: 3, key: 1}, item{slot: 5, key: 2, out: true}, item{slot: 2, key: 5, val: 77})
	b.lane(th, ref(root(1)), 0, 5, true)
	if epoch > maxEpoch && n > 8 {
		// No link can be of that epoch: what is swapped in leads nowhere.
		b.ends(th, 9, core.Done)
		if th.lane.Found() || th.lane.Into().Word != 0 {
			t.Error(kind, epoch, th.lane.Into())
		}
		return
	}
	if late {
		n--
	}
	b.steps(th, n)
	b.w.put(ref(epochCell), now)
	if late {
		b.steps(th, 1)
		n++
	}
	if now != epoch {
		b.ends(th, 1, core.Again)
		if th.rolls != 1 {
			t.Error(kind, epoch, now, n, th.rolls)
		}
		return
	}
	if n == 14 {
		b.ends(th, 1, core.Done)
	} else {
		b.steps(th, 1)
	}
	if th.rolls != 0 {
		t.Error(kind, epoch, now, n, th.rolls)
	}
}

// P15.1: the epoch goes there and back between two validations: nobody can tell.
func TestValidAndBack(t *testing.T) {
	for _, kind := range kinds {
		b, th := at(t, kind, hash(9), 6)
		b.lay(1, 0, 4, item{slot: 3, key: 1}, item{slot: 2, key: 5, val: 77})
		b.lane(th, ref(root(1)), 0, 5, true)
		for range 11 {
			b.w.put(ref(epochCell), 7)
			if th.tell.row[len(th.tell.row)-1] == '?' {
				b.w.put(ref(epochCell), 6)
			}
			b.steps(th, 1)
		}
		b.w.put(ref(epochCell), 6)
		b.ends(th, 1, core.Done)
		if !th.lane.Found() || th.lane.Val() != 77 || th.rolls != 0 {
			t.Error(kind, th.lane, th.rolls)
		}
	}
}

// P15.1: a cut is done as long as the link is what it was; another slot, a version or a mark alone: it isn't, and ends Again; what the marked one leads to by then plays no part.
func TestCut(t *testing.T) {
	for _, kind := range kinds {
		for _, deep := range []bool{false, true} {
			was := link(5, 4)
			for _, now := range []uint64{was, link(5, 3), link(5, 5), was | mark, link(3, 4), link(0, 4), link(2, 6), 0, math.MaxUint64} {
				for ahead := 1; ahead <= 3; ahead++ {
					cutAt(t, kind, deep, now, now == was, ahead)
				}
			}
		}
	}
}

// cutAt turns the link that leads to a marked slot, so many steps ahead of its cut; deep: that link is a slot's.
func cutAt(t *testing.T, kind string, deep bool, now uint64, done bool, ahead int) {
	items := []item{{slot: 5, key: 2, out: true}, {slot: 2, key: 5}}
	n := 4
	if deep {
		items = append([]item{{slot: 1, key: 1}}, items...)
		n = 8
	}
	b, th := at(t, kind, list(9), 7)
	it, _ := b.lay(0, 0, 4, items...)
	here, out := ref(root(0)), it[0].who()
	if deep {
		here, out = by(it[0].who(), nextPart), it[1].who()
	}
	b.lane(th, ref(root(0)), 0, 5, false)
	b.steps(th, n-ahead+1)
	b.w.World.Store(here, world.Val{Word: now, Id: 3})
	b.steps(th, ahead-1)
	b.w.World.Store(by(out, nextPart), world.Val{Word: link(3, 9), Id: 9})
	if !done {
		b.ends(th, 1, core.Again)
		if got := b.w.World.Load(here).Word; got != now {
			t.Error(kind, deep, now, ahead, got)
		}
		return
	}
	b.steps(th, 1)
	want := world.Val{Word: link(2, 7), Id: it[len(it)-1].id}
	if got := b.w.World.Load(here); got != want {
		t.Error(kind, deep, now, ahead, got, want)
	}
	b.ends(th, 4, core.Done)
	if !th.lane.Found() || th.lane.Into() != want || th.lane.At() != here {
		t.Error(kind, deep, th.lane.Into(), want)
	}
}

// P15.1: the epoch isn't looked at ahead of a cut, nor behind it: that it went on by then comes out at the next validation.
func TestCutUnseen(t *testing.T) {
	for _, kind := range kinds {
		b, th := at(t, kind, list(9), 7)
		b.lay(0, 0, 4, item{slot: 5, key: 2, out: true}, item{slot: 2, key: 5})
		b.lane(th, ref(root(0)), 0, 5, false)
		b.steps(th, 4)
		b.w.put(ref(epochCell), 8)
		b.steps(th, 2)
		if got := b.w.World.Peek(root(0)); got != link(2, 7) {
			t.Error(kind, got)
		}
		b.ends(th, 1, core.Again)
		b, th = at(t, kind, list(9), 7)
		b.lay(0, 0, 4, item{slot: 5, key: 2, out: true})
		b.lane(th, ref(root(0)), 0, 5, false)
		b.steps(th, 4)
		b.w.put(ref(epochCell), 8)
		b.ends(th, 1, core.Done)
		if got := th.lane.Into(); got != val(link(0, 7)) {
			t.Error(kind, got)
		}
	}
}

// P15.1: the epochs of which links can be, and those of which none can.
func TestCutEpochs(t *testing.T) {
	for _, kind := range kinds {
		for _, epoch := range []uint64{0, 1, 2, maxEpoch - 1, maxEpoch, maxEpoch + 1, 1 << 41, math.MaxInt, 1 << 63} {
			b, th := at(t, kind, list(9), epoch)
			it, _ := b.lay(0, 0, 4, item{slot: 5, key: 2, out: true}, item{slot: 2, key: 5})
			b.lane(th, ref(root(0)), 0, 5, false)
			if epoch == 1<<63 {
				b.ends(th, 2, core.Again)
				continue
			}
			b.steps(th, 4)
			if epoch > maxEpoch {
				b.ends(th, 1, core.Done)
			} else {
				b.steps(th, 1)
			}
			want := world.Val{Word: link(2, int(epoch)), Id: it[1].id}
			if got := b.w.World.Load(ref(root(0))); got != want {
				t.Error(kind, epoch, got, want)
			}
		}
	}
}

// P15.1: a thread behind no checkpoint has the epoch 0: a lane of it goes on in a world that isn't started.
func TestBeforeCheck(t *testing.T) {
	for _, kind := range kinds {
		b := benchOf(t, kind, list(9), 1)
		th := b.threads[0]
		b.lay(0, 0, 4, item{slot: 5, key: 2, out: true}, item{slot: 2, key: 5})
		b.lane(th, ref(root(0)), 0, 5, false)
		b.ends(th, 2, core.Again)
		b.w.put(ref(epochCell), 0)
		b.lane(th, ref(root(0)), 0, 5, false)
		b.ends(th, 9, core.Done)
		if !th.lane.Found() || b.w.World.Peek(root(0)) != link(2, 0) || th.rolls != 1 {
			t.Error(kind, th.lane, th.rolls)
		}
	}
}

// P15.1: the parts of a slot at any level, those too at which there is no link: the level is counted from the part Next on.
func TestLevels(t *testing.T) {
	for _, kind := range kinds {
		for _, level := range []int{0, 1, 2, 3, 15, 16, 100, -1, -7, -8, math.MaxInt, math.MaxInt - 7, math.MinInt} {
			for _, conf := range each(5) {
				b, th := at(t, kind, conf, 3)
				who := soul.Who{Slot: 4, Id: b.w.World.Born(4)}
				b.w.World.Store(ref(root(0)), world.Val{Word: link(4, 3), Id: who.Id})
				b.w.put(by(who, keyPart), 5)
				b.lane(th, ref(root(0)), level, 6, false)
				b.steps(th, 3)
				if part := b.w.seen[0].at.Place.Part; part != 7+level || b.w.seen[0].at.Place.Slot != 4 {
					t.Error(kind, level, part)
				}
				b.run(th)
			}
		}
	}
}

// P15.1: a lane begins at any reference, with whatever Id it has, and tells it as it was handed in.
func TestReferences(t *testing.T) {
	for _, kind := range kinds {
		for _, place := range []api.Place{epochCell, {Kind: 2}, {Kind: 3}, root(0), root(63), root(-1), part(3, 2), part(3, 7), part(0, 7), part(-1, 3), part(maxSlots, 22), {}, {Kind: 6, Slot: 1, Part: 1}, {Kind: math.MinInt, Slot: math.MaxInt, Part: -1}} {
			for _, id := range []int{0, 1, 2, -1, math.MaxInt} {
				here := world.At{Place: place, Id: id}
				b, th := at(t, kind, list(9), 5)
				who := soul.Who{Slot: 2, Id: b.w.World.Born(2)}
				b.w.World.Store(here, world.Val{Word: link(2, 5), Id: who.Id})
				b.w.put(ref(epochCell), 5)
				b.lane(th, here, 0, 0, true)
				b.ends(th, 1, core.Busy)
				if state, _ := b.run(th); state != core.Done || th.lane.At() != here {
					t.Error(kind, here, name(state), th.lane.At())
				}
				if ended := th.lane.Who(); place != epochCell && b.seen["stale w"] == 0 && ended != who {
					t.Error(kind, here, ended)
				}
			}
		}
	}
}

// P15.1: what a reference of a search is: the root of its number, whatever number that is, nobody's.
func TestRoots(t *testing.T) {
	for _, kind := range kinds {
		for _, from := range []int{0, 1, 2, 15, 63, 64, -1, math.MaxInt, math.MinInt} {
			for _, conf := range each(5) {
				b, th := at(t, kind, conf, 3)
				b.lay(from, 0, 3, item{slot: 4, key: 6, val: 9})
				b.find(th, from, 6, true)
				b.ends(th, 9, core.Done)
				if l := th.lane; l.At() != (world.At{Place: api.Place{Kind: 4, Part: from}}) || l.Val() != 9 {
					t.Error(kind, from, l.At(), l.Val())
				}
			}
		}
	}
}

// P15.1: a cell is referred to by the Id with which the link to it was read, whoever the slot is by now; behind a cut by that of the cut slot's link.
func TestIds(t *testing.T) {
	for _, kind := range []string{"ghost", "ideal"} {
		b, th := at(t, kind, list(9), 5)
		it, _ := b.lay(0, 0, 5, item{slot: 4, key: 1}, item{slot: 6, key: 2, out: true}, item{slot: 7, key: 3})
		b.lane(th, ref(root(0)), 0, 3, true)
		b.steps(th, 2)
		// Somebody else is born in each of the slots: who they were goes on to be asked for.
		for _, i := range it {
			b.w.World.Born(i.slot)
		}
		first, second, third := it[0].who(), it[1].who(), it[2].who()
		for i, want := range []world.At{
			by(first, nextPart), ref(epochCell), by(first, keyPart), ref(epochCell), by(second, nextPart), ref(epochCell), by(first, nextPart),
			by(third, nextPart), ref(epochCell), by(third, keyPart), ref(epochCell), by(third, valPart),
		} {
			if b.step(th); b.w.seen[0].at != want {
				t.Error(kind, i, b.w.seen, want)
			}
		}
		b.ends(th, 1, core.Done)
		if l := th.lane; l.Who() != third || l.At() != by(first, nextPart) {
			t.Error(kind, l.Who(), l.At())
		}
	}
}

// P15.1: w is handed to the swap as it was read, whom it leads to and whether that was stale too; what is swapped in is layer 13's To, which isn't stale.
func TestAsRead(t *testing.T) {
	for _, kind := range kinds {
		b, th := at(t, kind, list(9), 5)
		it, _ := b.lay(0, 0, 5, item{slot: 4, key: 1}, item{slot: 6, key: 2, out: true}, item{slot: 7, key: 3})
		b.w.World = &stained{b.w.World}
		l := b.lane(th, ref(root(0)), 0, 3, false)
		b.steps(th, 8)
		into := world.Val{Word: link(6, 5), Id: it[1].id, Stale: true}
		b.steps(th, 1)
		b.w.asked(t, swaps(by(it[0].who(), nextPart), into, world.Val{Word: link(7, 5), Id: it[2].id}))
		b.ends(th, 4, core.Done)
		if l.Into().Stale || !l.Out().Stale {
			t.Error(kind, l.Into(), l.Out())
		}
	}
}

// stained is a world all of whose loads are stale.
type stained struct{ world.World }

func (s *stained) Load(a world.At) world.Val {
	v := s.World.Load(a)
	v.Stale = true
	return v
}

// P15.1: a search whose lane ends Again begins anew with a checkpoint, from the root, behind each of its steps, once and often.
func TestAgain(t *testing.T) {
	for _, kind := range kinds {
		for _, values := range []bool{false, true} {
			for n := 2; n <= 14; n++ {
				for often := 1; often <= 4; often++ {
					b, th := at(t, kind, hash(9), 5)
					b.lay(1, 0, 5, item{slot: 4, key: 1}, item{slot: 6, key: 3, out: true}, item{slot: 7, key: 5, val: 8})
					b.find(th, 1, 5, values)
					rolls := 0
					for i := range often {
						b.steps(th, min(n, 13-3*min(i, 1)))
						b.w.put(ref(epochCell), uint64(6+i))
						for th.tell.row != "c" {
							b.steps(th, 1)
						}
						if rolls++; th.rolls != rolls {
							t.Fatal(kind, values, n, i, th.rolls, rolls)
						}
					}
					if state, _ := b.run(th); state != core.Done || !th.lane.Found() || th.rolls != rolls || th.epoch != 5+often {
						t.Error(kind, values, n, often, name(state), th.rolls)
					}
				}
			}
		}
	}
}

// P15.1: a search's lane is none ahead of its first checkpoint, and from it on always one; each one that ended Again stays as it was.
func TestSearchLane(t *testing.T) {
	b, th := at(t, "ghost", list(9), 5)
	b.lay(0, 0, 5, item{slot: 4, key: 1})
	s := b.find(th, 0, 1, false)
	var was []*seek.Lane
	for i := range 4 {
		if l := s.Lane(); i == 0 && l != nil || i > 0 && l != was[i-1] {
			t.Fatal(i, l)
		}
		b.steps(th, 2)
		if slices.Contains(was, s.Lane()) {
			t.Fatal("no new lane")
		}
		was = append(was, s.Lane())
		b.w.put(ref(epochCell), uint64(6+i))
		b.steps(th, 1)
	}
	b.ends(th, 7, core.Done)
	if slices.Contains(was, s.Lane()) || !s.Lane().Found() || s.Lane().Who().Slot != 4 {
		t.Error(s.Lane())
	}
}

// P15.1, rule 4: two lanes of one thread, and two searches of two, go each their own way.
func TestApart(t *testing.T) {
	b := benchOf(t, "ghost", hash(9), 2)
	b.lay(0, 0, 1, item{slot: 1, key: 1, val: 10}, item{slot: 2, key: 3, val: 30})
	b.lay(1, 0, 1, item{slot: 3, key: 2, val: 20}, item{slot: 4, key: 4, val: 40})
	one, two := b.threads[0], b.threads[1]
	b.find(one, 0, 3, true)
	b.find(two, 1, 4, true)
	b.steps(one, 12)
	b.steps(two, 12)
	b.ends(one, 1, core.Done)
	b.ends(two, 1, core.Done)
	if one.lane.Val() != 30 || two.lane.Val() != 40 {
		t.Error(one.lane.Val(), two.lane.Val())
	}
	l := seek.New(one.core, ref(root(0)), 0, 1, true)
	m := seek.New(one.core, ref(root(1)), 0, 3, false)
	for range 20 {
		l.Step(b.w)
		m.Step(b.w)
	}
	if !l.Found() || l.Val() != 10 || m.Found() || m.Val() != 0 || m.Who().Slot != 4 {
		t.Error(l, m)
	}
}

// P15.1, rule 5: of a nil thread there is no lane, and no search; of nil Step is Done, all else zero, and there is no access, again and again.
func TestNil(t *testing.T) {
	for _, kind := range kinds {
		inner := made(kind)
		world.Start(inner)
		w := &watched{World: inner}
		before := inner.Count()
		for _, n := range []int{0, 1, -1, math.MaxInt, math.MinInt} {
			for _, values := range []bool{false, true} {
				if l := seek.New(nil, ref(root(n)), n, uint64(n), values); l != nil {
					t.Error(kind, n, l)
				}
				if s := seek.NewSearch(nil, n, uint64(n), values); s != nil {
					t.Error(kind, n, s)
				}
			}
		}
		var l *seek.Lane
		var s *seek.Search
		for range 3 {
			for _, in := range []world.World{w, nil} {
				if l.Step(in) != core.Done || s.Step(in) != core.Done {
					t.Error(kind, "Step")
				}
			}
			if l.Found() || l.Who() != (soul.Who{}) || l.At() != (world.At{}) || l.Into() != val(0) || l.Out() != val(0) || l.Val() != 0 || s.Lane() != nil {
				t.Error(kind, "no zero values")
			}
		}
		w.idle(t)
		if inner.Count() != before {
			t.Error(kind, inner.Count(), before)
		}
	}
}

// around is a world of another package, with a world in it: of nil, and around none, it panics.
type around struct{ world.World }

// none are worlds that are none.
func none() []world.World {
	var p *world.Plain
	var g *ghost.Ghost
	var i *ideal.Ideal
	var s *shade.Shade
	var a *around
	var n *watched
	return []world.World{nil, p, g, i, s, a, around{}, &around{}, around{p}, &around{a}, n}
}

// P1: no step panics, whatever world is handed in, behind whichever step, and behind the last one.
func TestWorldOfNone(t *testing.T) {
	for _, none := range none() {
		for _, kind := range kinds {
			for n := range 16 {
				b, th := at(t, kind, hash(9), 5)
				b.lay(1, 0, 5, item{slot: 4, key: 1}, item{slot: 6, key: 3, out: true}, item{slot: 7, key: 5, val: 8})
				for _, m := range []machine{seek.New(th.core, ref(root(1)), 0, 5, true), seek.NewSearch(th.core, 1, 5, true)} {
					for range n {
						m.Step(b.w)
					}
					for range 9 {
						m.Step(none)
						m.Step(b.w)
					}
				}
			}
		}
	}
}

// P1: a load or a swap in no world isn't made, and is in the next one; a validation there isn't valid, as layer 13's isn't.
func TestNoWorld(t *testing.T) {
	for _, none := range []world.World{nil, around{}, (*around)(nil)} {
		for n := range 13 {
			b, th := at(t, "ghost", hash(9), 5)
			b.lay(1, 0, 5, item{slot: 4, key: 1}, item{slot: 6, key: 3, out: true}, item{slot: 7, key: 5, val: 8})
			b.lane(th, ref(root(1)), 0, 5, true)
			b.steps(th, n)
			row := th.tell.row
			state := th.lane.Step(none)
			if row[len(row)-1] == '?' {
				if state != core.Again || th.core.Rolls() != 1 {
					t.Error(row, name(state), th.core.Rolls())
				}
				continue
			}
			if state != core.Busy || th.core.Rolls() != 0 {
				t.Error(row, name(state), th.core.Rolls())
			}
			if state, _ := b.run(th); state != core.Done || th.lane.Val() != 8 {
				t.Error(row, name(state), th.lane.Val())
			}
		}
	}
}

// P1: no call panics, of a lane or a search that no call made either, and of a thread that none did.
func TestZero(t *testing.T) {
	w := world.New()
	for range 3 {
		l, s := &seek.Lane{}, &seek.Search{}
		for range 4 {
			for _, m := range []machine{l, s, seek.New(&core.Core{}, world.At{}, 0, 0, true), seek.NewSearch(&core.Core{}, 0, 0, true)} {
				m.Step(nil)
				m.Step(w)
			}
			l.Found()
			l.Who()
			l.At()
			l.Into()
			l.Out()
			l.Val()
			s.Lane()
		}
	}
	if n := w.Count(); n.Stores != 0 || n.Swaps != 0 || n.Adds != 0 {
		t.Error(n)
	}
}

// Rule 8, P1: lanes and searches that are mixed up, of one thread at once and by turns in several worlds, promise nothing, but none of their calls panics.
func TestMixed(t *testing.T) {
	x := numbers(8)
	for _, conf := range each(3) {
		var worlds []world.World
		for _, kind := range kinds {
			b, _ := at(t, kind, conf, 1)
			b.lay(0, 0, 1, item{slot: 1, key: 1}, item{slot: 2, key: 2, out: true}, item{slot: 3, key: 3})
			worlds = append(worlds, b.w.World)
		}
		threads := []*core.Core{core.New(conf), core.New(conf)}
		machines := []machine{(*seek.Lane)(nil), (*seek.Search)(nil)}
		for range 4000 {
			c, w := one(&x, threads), one(&x, worlds)
			switch x.below(20) {
			case 0:
				machines = append(machines, seek.New(c, ref(root(x.below(2))), x.below(3)-1, uint64(x.below(5)), x.below(2) == 0))
			case 1:
				machines = append(machines, seek.NewSearch(c, x.below(2), uint64(x.below(5)), x.below(2) == 0))
			case 2:
				c.Check(w)
			case 3:
				if s, is := one(&x, machines).(*seek.Search); is {
					s.Lane().Step(w)
				}
			case 4:
				w.Store(ref(epochCell), val(uint64(x.below(3))))
			default:
				one(&x, machines).Step(w)
			}
		}
	}
}
