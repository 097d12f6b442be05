package skip_test

import (
	"math"
	"slices"
	"testing"

	"revenant/api"
	"revenant/core"
	"revenant/queue"
	"revenant/skip"
	"revenant/soul"
	"revenant/world"
)

// makes holds that an op makes just these accesses, a step each, is Done behind the last one, and answers that.
func makes(t *testing.T, w *watched, o *skip.Op, want api.Answer, list ...access) {
	t.Helper()
	for i, a := range list {
		w.forget()
		if o.Answer() != no {
			t.Fatal(i, o.Answer())
		}
		if state := o.Step(w); (state == core.Done) != (i == len(list)-1) || state > core.Done {
			t.Fatal(i, name(state))
		}
		w.asked(t, a)
	}
	if o.Answer() != want {
		t.Fatal(o.Answer(), "not", want)
	}
}

// finds are the accesses of a Find over an empty skip list.
func finds(height int) []access {
	all := []access{epoch}
	for l := height - 1; l >= 0; l-- {
		all = append(all, loads(ref(root(l))), epoch)
	}
	return all
}

// birth are the accesses of an Alloc of a fresh slot.
func birth(who soul.Who, o api.Op) []access {
	return []access{
		adds(ref(freshCell), 1), stores(by(who, birthPart), val(1)), stores(by(who, retirePart), val(0)),
		stores(by(who, keyPart), val(o.Key)), stores(by(who, topPart), val(uint64(o.Level))), stores(by(who, statePart), val(0)),
	}
}

// puts are the accesses of an Insert's table, of a slot into an empty skip list.
func puts(who soul.Who, level int) []access {
	var all []access
	for l := range level {
		all = append(all, stores(next(who, l), val(link(0, 1))))
	}
	for l := range level {
		all = append(all, swaps(ref(root(l)), val(0), to(who, 1)))
	}
	return append(all, swaps(by(who, statePart), val(0), val(1)))
}

// takes are the accesses of a Delete of the only slot, that stands at so many levels.
func takes(who soul.Who, height, level int) []access {
	found, cut, marks := []access{epoch}, []access{epoch}, []access{loads(by(who, topPart)), epoch}
	for l := height - 1; l >= 0; l-- {
		first := []access{loads(ref(root(l))), epoch}
		if l >= level {
			found, cut = append(found, first...), append(cut, first...)
			continue
		}
		first = append(first, loads(next(who, l)), epoch)
		found = append(append(found, first...), loads(by(who, keyPart)), epoch)
		cut = append(append(cut, first...), swaps(ref(root(l)), to(who, 1), val(link(0, 1))))
		marks = append(marks, loads(next(who, l)), epoch, swaps(next(who, l), val(link(0, 1)), val(marked(0, 1))))
	}
	marks = append(marks, swaps(by(who, statePart), val(0), val(2)))
	return slices.Concat(found, marks, cut, []access{epoch, stores(by(who, retirePart), val(1))})
}

// The example: an Insert of 5 with 2 levels into an empty skip list of 2: Find (5 steps), Alloc (6), Find (5), s (2), t, u, z: true; of other keys, heights and levels likewise, and a Delete behind it.
func TestExample(t *testing.T) {
	if n := len(finds(2))*2 + len(birth(soul.Who{}, insert(5, 2))) + len(puts(soul.Who{}, 2)); n != 21 {
		t.Fatal(n)
	}
	for _, kind := range kinds {
		for _, height := range []int{1, 2, 3, 7, maxHeight} {
			for level := 1; level <= height; level++ {
				for _, key := range []uint64{5, 0, math.MaxUint64} {
					w := &watched{World: made(kind)}
					world.Start(w)
					one := soul.Who{Slot: 1, Id: 1}
					if kind == "plain" {
						one.Id = 0
					}
					c, o := core.New(tall(4, height)), insert(key, level)
					makes(t, w, skip.New(c, o), yes, slices.Concat(finds(height), birth(one, o), finds(height), puts(one, level))...)
					if who, holds := c.Held(); holds || c.Queue().Len() != 0 {
						t.Error(kind, height, level, "holds", who, c.Queue().List())
					}
					makes(t, w, skip.New(c, remove(key)), yes, takes(one, height, level)...)
					want := []queue.Entry{{Slot: 1, Retired: 1, Id: one.Id}}
					if got := c.Queue().List(); !slices.Equal(got, want) || c.Epoch() != 1 || c.Rolls() != 0 {
						t.Error(kind, height, level, got, c.Epoch(), c.Rolls())
					}
					makes(t, w, skip.New(c, has(key)), no, finds(height)...)
				}
			}
		}
	}
}

// P19.1, P19.2: an empty skip list has nothing, and nothing can be taken out of it; of one level and of many, at the lowest level and at the highest.
func TestEmpty(t *testing.T) {
	for _, kind := range kinds {
		for _, height := range []int{1, 2, maxHeight} {
			for _, level := range []int{1, height} {
				for _, key := range []uint64{0, 1, math.MaxUint64} {
					b := benchOf(t, kind, tall(1, height), 1)
					th := b.threads[0]
					find := 1 + 2*height
					// A Find that comes to the slot makes four steps more at each level, one that cuts it off three.
					for i, s := range []struct {
						op    api.Op
						want  api.Answer
						steps int
						keys  []uint64
					}{
						{has(key), no, find, nil},
						{remove(key), no, find, nil},
						{insert(key, level), yes, 2*find + 6 + 2*level + 1, []uint64{key}},
						{has(key), yes, find + 4*level, []uint64{key}},
						{insert(key, 1), no, find + 4*level, []uint64{key}},
						{remove(key), yes, find + 4*level + 2 + 3*level + 1 + find + 3*level + 2, nil},
						{remove(key), no, find, nil},
						{has(key), no, find, nil},
						// The slot was retired in the epoch that still goes on: a1, and a Find again.
						{insert(key, level), yes, 3*find + 1 + 5 + 2*level + 1, []uint64{key}},
						{remove(key), yes, 2*find + 10*level + 5, nil},
					} {
						if n := b.ask(th, s.op, s.want); n != s.steps {
							t.Error(kind, height, level, i, s.op, "makes", n, "steps, not", s.steps)
						}
						b.has(s.keys...)
					}
					b.clean()
				}
			}
		}
	}
}

// P19.2: keys come and go, the lowest and the highest one too, at any levels; of what is there already, and of what isn't, nothing changes.
func TestKeys(t *testing.T) {
	const top = math.MaxUint64
	for _, kind := range kinds {
		for _, height := range []int{1, 2, 3, maxHeight} {
			b := benchOf(t, kind, tall(6, height), 1)
			th := b.threads[0]
			for _, s := range []struct {
				op   api.Op
				want api.Answer
				keys []uint64
			}{
				{insert(7, height), yes, []uint64{7}},
				{insert(7, 1), no, []uint64{7}},
				{has(7), yes, []uint64{7}},
				{has(6), no, []uint64{7}},
				{has(8), no, []uint64{7}},
				{insert(top, 1), yes, []uint64{7, top}},
				{insert(0, height), yes, []uint64{0, 7, top}},
				{insert(0, height), no, []uint64{0, 7, top}},
				{insert(top, height), no, []uint64{0, 7, top}},
				{has(0), yes, []uint64{0, 7, top}},
				{has(top), yes, []uint64{0, 7, top}},
				{insert(8, min(2, height)), yes, []uint64{0, 7, 8, top}},
				{insert(6, 1), yes, []uint64{0, 6, 7, 8, top}},
				{remove(5), no, []uint64{0, 6, 7, 8, top}},
				{remove(7), yes, []uint64{0, 6, 8, top}},
				{remove(7), no, []uint64{0, 6, 8, top}},
				{has(7), no, []uint64{0, 6, 8, top}},
				{remove(0), yes, []uint64{6, 8, top}},
				{remove(top), yes, []uint64{6, 8}},
				{has(top), no, []uint64{6, 8}},
				{insert(7, height), yes, []uint64{6, 7, 8}},
				{insert(top, height), yes, []uint64{6, 7, 8, top}},
				{remove(6), yes, []uint64{7, 8, top}},
				{remove(8), yes, []uint64{7, top}},
				{remove(7), yes, []uint64{top}},
				{remove(top), yes, nil},
			} {
				b.ask(th, s.op, s.want)
				b.has(s.keys...)
			}
			b.clean()
		}
	}
}

// stand is a bench of two threads over a skip list of three levels and three keys, 2 at all levels, 4 at two and 9 at all, and the first one's op, for which it holds the slot 5, ahead of a row; the second one has slots of its own, 1 and 2.
func stand(t *testing.T, kind string, o api.Op, row string) (b *bench, it []item, links [][]world.Val, who soul.Who) {
	t.Helper()
	b = benchOf(t, kind, tall(9, 3), 2)
	b.put(ref(epochCell), 6)
	b.put(ref(freshCell), 8)
	it, links = b.lay(4, tower(8, 2, 3), tower(3, 4, 2), tower(6, 9, 3))
	a, z := b.threads[0], b.threads[1]
	if o.Kind == api.Insert {
		who = b.born(a, 5, o.Key)
		b.put(by(who, topPart), uint64(o.Level))
	}
	b.push(z, queue.Entry{Slot: 1}, queue.Entry{Slot: 2})
	b.begin(a, o)
	b.till(a, row)
	return b, it, links, who
}

// between tells, of each level, the link at which a Find of a key ends over that skip list, and what it is.
func between(it []item, links [][]world.Val, key uint64) (at []world.At, into []world.Val) {
	for l := range 3 {
		here, is := ref(root(l)), world.Val{}
		for i, it := range it {
			if l < it.top && it.key >= key && is == (world.Val{}) {
				is = to(it.who(), 4)
			}
			if l < it.top && it.key < key {
				here = next(it.who(), l)
				if links[l][i] == val(link(0, 4)) {
					is = links[l][i]
				}
			}
		}
		at, into = append(at, here), append(into, is)
	}
	return at, into
}

// P19.1, P19.2: an Insert's table access by access, at the root, between slots and behind the last one, with each level: its key is there from t on, and nothing is held any more.
func TestInsertTable(t *testing.T) {
	for _, kind := range kinds {
		for _, key := range []uint64{1, 3, 5, 10} {
			for level := 1; level <= 3; level++ {
				b, it, links, n := stand(t, kind, insert(key, level), "s 0")
				a := b.threads[0]
				at, into := between(it, links, key)
				var list []access
				for l := range level {
					list = append(list, stores(next(n, l), to(lead(into[l]), 6)))
				}
				for l := range level {
					list = append(list, swaps(at[l], into[l], to(n, 6)))
				}
				list = append(list, swaps(by(n, statePart), val(0), val(1)))
				was, now := []uint64{2, 4, 9}, []uint64{2, 4, 9, key}
				slices.Sort(now)
				for i, want := range list {
					b.w.forget()
					if state := a.op.Step(b.w); (state == core.Done) != (i == 2*level) || state > core.Done {
						t.Fatal(kind, key, level, i, name(state))
					}
					b.w.asked(t, want)
					keys := was
					if i >= level {
						keys = now
					}
					b.has(keys...)
					if who, holds := a.core.Held(); holds != (i < level) || holds && who != n {
						t.Fatal(kind, key, level, i, "holds", who, holds)
					}
					for l := range 3 {
						if is := slices.Contains(b.live(l), 5); is != (l < level && i >= level+l) {
							t.Fatal(kind, key, level, i, "is linked at", l, is)
						}
					}
				}
				if a.op.Answer() != yes || b.w.World.Peek(part(5, statePart)) != 1 || a.core.Queue().Len() != 0 || a.core.Epoch() != 6 {
					t.Error(kind, key, level, a.op.Answer(), a.core.Queue().List())
				}
				b.clean()
			}
		}
	}
}

// P19.1 to P19.3: a Delete's table access by access, of slots at two levels and at three: its key is gone from g2 on; the slot is retired by who deletes it, if who put it in came first to its State, else by that one.
func TestDeleteTable(t *testing.T) {
	for _, kind := range kinds {
		for i, key := range []uint64{2, 4, 9} {
			for state := range uint64(3) {
				b, it, links, _ := stand(t, kind, remove(key), "e")
				a, c := b.threads[0], it[i]
				b.put(by(c.who(), statePart), state)
				list := []access{loads(by(c.who(), topPart)), epoch}
				for l := c.top - 1; l >= 0; l-- {
					y := links[l][i]
					list = append(list, loads(next(c.who(), l)), epoch, swaps(next(c.who(), l), y, world.Val{Word: marked(slotOf(y.Word), 6), Id: y.Id}))
				}
				list = append(list, swaps(by(c.who(), statePart), val(0), val(2)))
				for n, want := range list {
					b.w.forget()
					if got := a.op.Step(b.w); (got == core.Done) != (state == 0 && n == len(list)-1) || got > core.Done {
						t.Fatal(kind, key, state, n, name(got))
					}
					b.w.asked(t, want)
					keys := []uint64{2, 4, 9}
					if n >= len(list)-2 {
						keys = slices.Delete(keys, i, i+1)
					}
					b.has(keys...)
					for l := range c.top {
						if out := b.isOut(c.slot, l); out != (n >= 4+3*(c.top-1-l)) {
							t.Fatal(kind, key, state, n, "is marked at", l, out)
						}
					}
				}
				if state == 0 {
					if a.op.Answer() != yes || a.core.Queue().Len() != 0 || b.w.World.Peek(part(c.slot, statePart)) != 2 || !b.isLinked(c.slot) {
						t.Error(kind, key, a.op.Answer(), a.core.Queue().List())
					}
					continue
				}
				if a.op.Answer() != no || !b.isLinked(c.slot) {
					t.Error(kind, key, a.op.Answer())
				}
				// A Find cuts it off at each level.
				for range 200 {
					if a.op.Step(b.w) == core.Done {
						break
					}
				}
				want := []queue.Entry{{Slot: c.slot, Retired: 6, Id: c.id}}
				if got := a.core.Queue().List(); !slices.Equal(got, want) || a.op.Answer() != yes || b.isLinked(c.slot) || b.w.World.Peek(part(c.slot, statePart)) != state {
					t.Error(kind, key, state, got, a.op.Answer())
				}
				b.clean()
			}
		}
	}
}

// P19.2, P19.3: at each step of an op another thread is told what was there up to one swap, and what is from that on, and what it does itself ends; and the op, going on, is answered as if nobody had asked.
func TestBetween(t *testing.T) {
	for _, kind := range kinds {
		for _, s := range []struct {
			op          api.Op
			want        api.Answer
			swap        string
			before, now api.Answer
		}{
			{insert(5, 1), yes, "t", no, yes}, {insert(5, 2), yes, "t", no, yes}, {insert(5, 3), yes, "t", no, yes}, {insert(1, 3), yes, "t", no, yes},
			{insert(4, 3), no, "", yes, yes}, {remove(4), yes, "g2", yes, no}, {remove(2), yes, "g2", yes, no}, {remove(5), no, "", no, no},
			{has(4), yes, "", yes, yes}, {has(5), no, "", no, no},
		} {
			for cut := 0; ; cut++ {
				b, _, _, _ := stand(t, kind, s.op, "c")
				a, z := b.threads[0], b.threads[1]
				want := s.before
				for n := 0; n < cut && a.tell != nil; n++ {
					row := a.tell.row
					b.step(a)
					if row == s.swap {
						want = s.now
					}
				}
				b.ask(z, has(s.op.Key), want)
				b.ask(z, has(9), yes)
				if a.tell == nil {
					break
				}
				b.ask(z, insert(8, 3), yes)
				b.ask(z, remove(8), yes)
				b.run(a)
				if a.answer != s.want {
					t.Fatal(kind, s.op, cut, "answers", a.answer)
				}
				b.ask(z, has(s.op.Key), s.now)
				b.clean()
			}
		}
	}
}
