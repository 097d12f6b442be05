package table_test

import (
	"math"
	"slices"
	"testing"

	"revenant/api"
	"revenant/core"
	"revenant/ghost"
	"revenant/ideal"
	"revenant/queue"
	"revenant/shade"
	"revenant/soul"
	"revenant/table"
	"revenant/world"
)

// makes holds that an op makes just these accesses, a step each, is Done behind the last one, and answers that.
func makes(t *testing.T, w *watched, o *table.Op, want api.Answer, list ...access) {
	t.Helper()
	for i, a := range list {
		w.forget()
		if o.Answer() != no {
			t.Fatal(i, o.Answer())
		}
		if state := o.Step(w); (state == core.Done) != (i == len(list)-1) || state > core.Done {
			t.Fatal(i, name(state))
		}
		w.asked(t, a)
	}
	if o.Answer() != want {
		t.Fatal(o.Answer(), "not", want)
	}
}

// finds are the accesses of a search that ends at the first slot of a root, with the key.
func finds(root int, who soul.Who) []access {
	return []access{
		epoch, loads(ref(rootCell(root))), epoch, loads(by(who, nextPart)), epoch,
		loads(by(who, keyPart)), epoch, loads(by(who, valPart)), epoch,
	}
}

// birth are the accesses of an Alloc of a fresh slot.
func birth(who soul.Who, key, value uint64) []access {
	return []access{
		adds(ref(freshCell), 1), stores(by(who, birthPart), val(1)), stores(by(who, retirePart), val(0)),
		stores(by(who, keyPart), val(key)), stores(by(who, valPart), val(value)),
	}
}

// The example: a Put of 5 with 1, and a Put of 5 with 2: false; true and 1; of other keys and values, and an Add at first, likewise.
func TestExample(t *testing.T) {
	for _, kind := range kinds {
		for _, key := range []uint64{5, 0, math.MaxUint64} {
			for _, buckets := range []int{1, 3, 64} {
				for _, first := range []api.Op{put(key, 1), add(key, 1), put(key, 0), put(key, math.MaxUint64)} {
					w := &watched{World: made(kind)}
					world.Start(w)
					one, two := soul.Who{Slot: 1, Id: 1}, soul.Who{Slot: 2, Id: 2}
					if kind == "plain" {
						one.Id, two.Id = 0, 0
					}
					root := bucketOf(buckets, key)
					at, empty := ref(rootCell(root)), []access{epoch, loads(ref(rootCell(root))), epoch}
					c := core.New(hash(4, buckets))
					to := world.Val{Word: link(1, 1), Id: one.Id}
					makes(t, w, table.New(c, first), api.Answer{Done: first.Kind == api.Add}, slices.Concat(
						empty, birth(one, key, first.Val), empty,
						[]access{stores(by(one, nextPart), val(link(0, 1))), swaps(at, val(0), to)},
					)...)
					end := val(link(0, 1))
					makes(t, w, table.New(c, put(key, 2)), had(first.Val), slices.Concat(
						finds(root, one), birth(two, key, 2), finds(root, one),
						[]access{
							stores(by(two, nextPart), end),
							swaps(by(one, nextPart), end, world.Val{Word: marked(2, 1), Id: two.Id}),
							swaps(at, to, world.Val{Word: link(2, 1), Id: two.Id}),
							epoch, stores(by(one, retirePart), val(1)),
						},
					)...)
					want := []queue.Entry{{Slot: 1, Retired: 1, Id: one.Id}}
					if got := c.Queue().List(); !slices.Equal(got, want) || c.Epoch() != 1 || c.Rolls() != 0 {
						t.Error(kind, key, got, c.Epoch(), c.Rolls())
					}
					if who, holds := c.Held(); holds {
						t.Error(kind, "holds", who)
					}
				}
			}
		}
	}
}

// P17.1, P17.2: an empty bucket has nothing, and nothing can be taken out of it; a Put or an Add brings something in.
func TestEmpty(t *testing.T) {
	for _, kind := range kinds {
		for _, key := range []uint64{0, 1, math.MaxUint64} {
			for _, buckets := range []int{1, 2, 64} {
				b := benchOf(t, kind, hash(2, buckets), 1)
				th := b.threads[0]
				// How many steps: a search of nothing 3, of the one that is there 9; an Alloc 5; a Link 2; an Unlink 4; u1.
				for i, s := range []struct {
					op    api.Op
					want  api.Answer
					steps int
					pairs []pair
				}{
					{get(key), no, 3, nil},
					{remove(key), no, 3, nil},
					{put(key, 7), no, 13, []pair{{key, 7}}},
					{get(key), had(7), 9, []pair{{key, 7}}},
					{add(key, 8), kept(7), 9, []pair{{key, 7}}},
					{put(key, 9), had(7), 28, []pair{{key, 9}}},
					{remove(key), had(9), 13, nil},
					{remove(key), no, 3, nil},
					{get(key), no, 3, nil},
					// The slots were retired in the epoch that still goes on: a1, and a search again.
					{add(key, 3), yes, 13 - 1 + 1 + 3, []pair{{key, 3}}},
					{remove(key), had(3), 13, nil},
				} {
					if n := b.ask(th, s.op, s.want); n != s.steps {
						t.Error(kind, i, s.op, "makes", n, "steps")
					}
					b.has(s.pairs...)
				}
				b.clean()
			}
		}
	}
}

// P17.2: keys come, change their values and go, the lowest and the highest one too, in one bucket and in many; of what isn't there nothing is told, and an Add of what is there changes nothing.
func TestKeys(t *testing.T) {
	const top = math.MaxUint64
	for _, kind := range kinds {
		for _, buckets := range []int{1, 2, 3, 7, 64} {
			b := benchOf(t, kind, hash(7, buckets), 1)
			th := b.threads[0]
			for _, s := range []struct {
				op    api.Op
				want  api.Answer
				pairs []pair
			}{
				{put(7, 1), no, []pair{{7, 1}}},
				{put(7, 2), had(1), []pair{{7, 2}}},
				{add(7, 3), kept(2), []pair{{7, 2}}},
				{get(7), had(2), []pair{{7, 2}}},
				{get(6), no, []pair{{7, 2}}},
				{get(8), no, []pair{{7, 2}}},
				{remove(6), no, []pair{{7, 2}}},
				{remove(8), no, []pair{{7, 2}}},
				{put(7, 0), had(2), []pair{{7, 0}}},
				{get(7), had(0), []pair{{7, 0}}},
				{add(7, 5), kept(0), []pair{{7, 0}}},
				{put(7, 2), had(0), []pair{{7, 2}}},
				{add(top, 4), yes, []pair{{7, 2}, {top, 4}}},
				{put(0, top), no, []pair{{0, top}, {7, 2}, {top, 4}}},
				{get(0), had(top), []pair{{0, top}, {7, 2}, {top, 4}}},
				{add(0, 6), kept(top), []pair{{0, top}, {7, 2}, {top, 4}}},
				{put(0, 0), had(top), []pair{{0, 0}, {7, 2}, {top, 4}}},
				{get(top), had(4), []pair{{0, 0}, {7, 2}, {top, 4}}},
				{add(8, 0), yes, []pair{{0, 0}, {7, 2}, {8, 0}, {top, 4}}},
				{put(6, 9), no, []pair{{0, 0}, {6, 9}, {7, 2}, {8, 0}, {top, 4}}},
				{put(top, 5), had(4), []pair{{0, 0}, {6, 9}, {7, 2}, {8, 0}, {top, 5}}},
				{put(7, 7), had(2), []pair{{0, 0}, {6, 9}, {7, 7}, {8, 0}, {top, 5}}},
				{remove(5), no, []pair{{0, 0}, {6, 9}, {7, 7}, {8, 0}, {top, 5}}},
				{remove(7), had(7), []pair{{0, 0}, {6, 9}, {8, 0}, {top, 5}}},
				{remove(7), no, []pair{{0, 0}, {6, 9}, {8, 0}, {top, 5}}},
				{get(7), no, []pair{{0, 0}, {6, 9}, {8, 0}, {top, 5}}},
				{remove(0), had(0), []pair{{6, 9}, {8, 0}, {top, 5}}},
				{remove(top), had(5), []pair{{6, 9}, {8, 0}}},
				{get(top), no, []pair{{6, 9}, {8, 0}}},
				{put(7, 3), no, []pair{{6, 9}, {7, 3}, {8, 0}}},
				{remove(8), had(0), []pair{{6, 9}, {7, 3}}},
				{remove(6), had(9), []pair{{7, 3}}},
				{remove(7), had(3), nil},
			} {
				b.ask(th, s.op, s.want)
				b.has(s.pairs...)
			}
			b.clean()
		}
	}
}

// P17.2: values of every sort are told as they were put, added, and taken out.
func TestValues(t *testing.T) {
	for _, kind := range kinds {
		for _, one := range values {
			for _, two := range values {
				b := benchOf(t, kind, hash(3, 2), 1)
				th := b.threads[0]
				b.ask(th, add(4, one), yes)
				b.ask(th, get(4), had(one))
				b.ask(th, add(4, two), kept(one))
				b.ask(th, put(4, two), had(one))
				b.ask(th, get(4), had(two))
				b.ask(th, remove(4), had(two))
				b.ask(th, put(4, one), no)
				b.has(pair{4, one})
				b.clean()
			}
		}
	}
}

// P17.1: an op is of its key's bucket: it begins at its root, and touches no other one.
func TestBuckets(t *testing.T) {
	x := numbers(5)
	for buckets := 1; buckets <= 64; buckets++ {
		b := benchOf(t, "ghost", hash(8, buckets), 1)
		th := b.threads[0]
		had := map[uint64]uint64{}
		for range 40 {
			key := uint64(x.below(12)) * 0x9E3779B97F4A7C15
			o := one(&x, []api.Op{put(key, uint64(x.below(9))), add(key, 3), remove(key), get(key)})
			var was []uint64
			for root := range buckets {
				was = append(was, b.w.World.Peek(rootCell(root)))
			}
			b.begin(th, o)
			b.run(th)
			for root := range buckets {
				if root != bucketOf(buckets, key) && b.w.World.Peek(rootCell(root)) != was[root] {
					t.Error(buckets, o, "changes the bucket", root)
				}
			}
			switch {
			case th.answer.Err != api.OK:
			case o.Kind == api.Put, o.Kind == api.Add && th.answer.Done:
				had[key] = o.Val
			case o.Kind == api.Remove:
				delete(had, key)
			}
			var want []pair
			for key, value := range had {
				want = append(want, pair{key, value})
			}
			slices.SortFunc(want, byKey)
			b.has(want...)
		}
	}
}

// laid is a bench of two threads over a bucket of three keys, 2, 4 and 9, and the first one's op, for which it holds a slot, ahead of a row.
func laid(t *testing.T, kind string, o api.Op, row string) (b *bench, it []item, links []world.Val, who soul.Who) {
	t.Helper()
	b = benchOf(t, kind, hash(9, 1), 2)
	b.put(ref(epochCell), 6)
	b.put(ref(freshCell), 8)
	it, links = b.lay(0, 4, item{slot: 8, key: 2, val: 20}, item{slot: 3, key: 4, val: 40}, item{slot: 6, key: 9, val: 90})
	a, z := b.threads[0], b.threads[1]
	if o.Kind == api.Put || o.Kind == api.Add {
		who = b.born(a, 5, o.Key, o.Val)
	}
	// The second one has slots of its own.
	b.push(z, queue.Entry{Slot: 1}, queue.Entry{Slot: 2})
	b.begin(a, o)
	b.till(a, row)
	return b, it, links, who
}

// P17.1, P17.2: a Put over a key that is there, of the first slot, one between and the last one: what it stores, and the one swap that brings its value in, and leads to it for whoever comes by the old slot.
func TestPutOver(t *testing.T) {
	for _, kind := range kinds {
		for i, key := range []uint64{2, 4, 9} {
			b, it, links, held := laid(t, kind, put(key, 70), "u1")
			a := b.threads[0]
			here := ref(rootCell(0))
			if i > 0 {
				here = by(it[i-1].who(), nextPart)
			}
			to, old := world.Val{Word: link(slotOf(links[i+1].Word), 6), Id: links[i+1].Id}, it[i].val
			b.w.World.Store(ref(epochCell), val(8))
			for n, want := range []access{
				stores(by(held, nextPart), to),
				swaps(by(it[i].who(), nextPart), links[i+1], world.Val{Word: marked(5, 6), Id: held.Id}),
				swaps(here, links[i], world.Val{Word: link(5, 6), Id: held.Id}),
				epoch,
				stores(by(it[i].who(), retirePart), val(8)),
			} {
				b.w.forget()
				if state := a.op.Step(b.w); (state == core.Done) != (n == 4) || state > core.Done {
					t.Fatal(kind, key, n, name(state))
				}
				b.w.asked(t, want)
				pairs := []pair{{2, 20}, {4, 40}, {9, 90}}
				if n > 0 {
					pairs[i].val = 70
				}
				b.has(pairs...)
				if who, holds := a.core.Held(); holds != (n == 0) || holds && who != held {
					t.Fatal(kind, key, n, "holds", who, holds)
				}
			}
			if a.op.Answer() != had(old) {
				t.Error(kind, key, a.op.Answer())
			}
			want := []queue.Entry{{Slot: it[i].slot, Retired: 8, Id: it[i].id}}
			if got := a.core.Queue().List(); !slices.Equal(got, want) || a.core.Epoch() != 6 {
				t.Error(kind, key, got, a.core.Epoch())
			}
			b.clean()
		}
	}
}

// P17.2: at each step of an op another thread gets what was there up to one swap, and what it brought, or nothing, from that on; and the op, going on, is answered as if nobody had asked.
func TestBetween(t *testing.T) {
	for _, kind := range kinds {
		for _, s := range []struct {
			op          api.Op
			want        api.Answer
			swap        string
			before, now api.Answer
		}{
			{put(4, 70), had(40), "d1", had(40), had(70)},
			{put(4, 0), had(40), "d1", had(40), had(0)},
			{put(5, 70), no, "i2", no, had(70)},
			{add(5, 70), yes, "i2", no, had(70)},
			{add(4, 70), kept(40), "", had(40), had(40)},
			{remove(4), had(40), "d1", had(40), no},
			{remove(5), no, "", no, no},
			{get(4), had(40), "", had(40), had(40)},
		} {
			for cut := 0; ; cut++ {
				b, _, _, _ := laid(t, kind, s.op, "c")
				a, z := b.threads[0], b.threads[1]
				want := s.before
				n := 0
				for ; n < cut && a.tell != nil; n++ {
					row := a.tell.row
					b.step(a)
					if row == s.swap {
						want = s.now
					}
				}
				b.ask(z, get(s.op.Key), want)
				b.ask(z, get(2), had(20))
				b.ask(z, get(9), had(90))
				if a.tell == nil {
					break
				}
				b.run(a)
				if a.answer != s.want {
					t.Fatal(kind, s.op, cut, "answers", a.answer)
				}
				b.ask(z, get(s.op.Key), s.now)
				b.clean()
			}
		}
	}
}

// P17.2, P17.3: a Put over a key that is there stands ahead of its store, of its mark, and of its cut, while another one does something: whether its mark is done, what both are answered, and what is there then.
func TestPutStops(t *testing.T) {
	for _, kind := range kinds {
		for _, s := range []struct {
			rows  []string
			other api.Op
			told  api.Answer
			marks bool // whether the mark is done, if it wasn't
			cuts  bool // whether the cut is done
			want  api.Answer
			pairs []pair
		}{
			{[]string{"u1", "d1"}, put(4, 41), had(40), false, false, had(41), []pair{{2, 20}, {4, 70}, {9, 90}}},
			{[]string{"d2"}, put(4, 41), had(70), true, false, had(40), []pair{{2, 20}, {4, 41}, {9, 90}}},
			{[]string{"u1", "d1"}, remove(4), had(40), false, false, no, []pair{{2, 20}, {4, 70}, {9, 90}}},
			{[]string{"d2"}, remove(4), had(70), true, false, had(40), []pair{{2, 20}, {9, 90}}},
			{[]string{"u1", "d1"}, add(4, 41), kept(40), true, true, had(40), []pair{{2, 20}, {4, 70}, {9, 90}}},
			{[]string{"d2"}, add(4, 41), kept(70), true, false, had(40), []pair{{2, 20}, {4, 70}, {9, 90}}},
			{[]string{"u1", "d1"}, remove(9), had(90), false, false, had(40), []pair{{2, 20}, {4, 70}}},
			{[]string{"d2"}, remove(9), had(90), true, false, had(40), []pair{{2, 20}, {4, 70}}},
			{[]string{"u1", "d1"}, put(9, 91), had(90), false, false, had(40), []pair{{2, 20}, {4, 70}, {9, 91}}},
			{[]string{"u1", "d1"}, add(5, 50), yes, false, false, had(40), []pair{{2, 20}, {4, 70}, {5, 50}, {9, 90}}},
			{[]string{"d2"}, add(5, 50), yes, true, false, had(40), []pair{{2, 20}, {4, 70}, {5, 50}, {9, 90}}},
			{[]string{"u1", "d1"}, remove(2), had(20), true, false, had(40), []pair{{4, 70}, {9, 90}}},
			{[]string{"d2"}, remove(2), had(20), true, false, had(40), []pair{{4, 70}, {9, 90}}},
			{[]string{"u1", "d1"}, put(2, 21), had(20), true, false, had(40), []pair{{2, 21}, {4, 70}, {9, 90}}},
			{[]string{"u1", "d1", "d2"}, put(3, 30), no, true, false, had(40), []pair{{2, 20}, {3, 30}, {4, 70}, {9, 90}}},
			{[]string{"u1", "d1", "d2"}, put(1, 10), no, true, true, had(40), []pair{{1, 10}, {2, 20}, {4, 70}, {9, 90}}},
			{[]string{"u1", "d1", "d2"}, get(2), had(20), true, true, had(40), []pair{{2, 20}, {4, 70}, {9, 90}}},
		} {
			for _, row := range s.rows {
				b, _, _, _ := laid(t, kind, put(4, 70), row)
				a, z := b.threads[0], b.threads[1]
				b.ask(z, s.other, s.told)
				if row == "u1" {
					b.step(a)
				}
				if a.tell.row == "d1" {
					b.step(a)
					if (a.tell.row == "d2") != s.marks {
						t.Fatal(kind, row, s.other, "goes on at", a.tell.row)
					}
				}
				if a.tell.row == "d2" {
					b.step(a)
					if (a.tell.row == "r1") != s.cuts {
						t.Fatal(kind, row, s.other, "goes on at", a.tell.row)
					}
				}
				b.run(a)
				if a.answer != s.want {
					t.Fatal(kind, row, s.other, "answers", a.answer)
				}
				b.has(s.pairs...)
				if len(b.linked(0)) != len(s.pairs) {
					t.Error(kind, row, s.other, "linked are", b.linked(0))
				}
				b.clean()
			}
		}
	}
}

// P17.1: a Put whose second swap isn't done: a search from its bucket for the key, not for values, cuts off what it marked, so that the new slot stands in its place; then the old one is retired.
func TestPutSearches(t *testing.T) {
	for _, kind := range kinds {
		b, it, _, held := laid(t, kind, put(4, 70), "d1")
		a, z := b.threads[0], b.threads[1]
		b.ask(z, put(3, 30), no)
		b.steps(a, 2)
		// The one that came is the second thread's first slot.
		three := soul.Who{Slot: 1, Id: b.w.World.Load(by(it[0].who(), nextPart)).Id}
		list := []access{
			epoch, loads(ref(rootCell(0))), epoch,
			loads(by(it[0].who(), nextPart)), epoch, loads(by(it[0].who(), keyPart)), epoch,
			loads(by(three, nextPart)), epoch, loads(by(three, keyPart)), epoch,
			loads(by(it[1].who(), nextPart)), epoch,
			swaps(by(three, nextPart), world.Val{Word: link(3, 6), Id: it[1].id}, world.Val{Word: link(5, 6), Id: held.Id}),
			loads(by(held, nextPart)), epoch, loads(by(held, keyPart)), epoch,
			epoch, stores(by(it[1].who(), retirePart), val(6)),
		}
		// What is marked is still linked, behind the one that came.
		if !slices.Equal(b.linked(0), []int{8, 1, 3, 5, 6}) {
			t.Fatal(kind, "linked are", b.linked(0))
		}
		makes(t, b.w, a.op, had(40), list...)
		if got := b.linked(0); !slices.Equal(got, []int{8, 1, 5, 6}) {
			t.Error(kind, "linked are", got)
		}
		b.has(pair{2, 20}, pair{3, 30}, pair{4, 70}, pair{9, 90})
		b.clean()
	}
}

// P17.1, P17.2: a Remove of a key whose mark, or whose cut, isn't done.
func TestRemoveStops(t *testing.T) {
	for _, kind := range kinds {
		for _, s := range []struct {
			row   string
			other api.Op
			told  api.Answer
			want  api.Answer
			pairs []pair
		}{
			{"d1", put(4, 41), had(40), had(41), []pair{{2, 20}, {9, 90}}},
			{"d1", remove(4), had(40), no, []pair{{2, 20}, {9, 90}}},
			{"d1", remove(9), had(90), had(40), []pair{{2, 20}}},
			{"d1", remove(2), had(20), had(40), []pair{{9, 90}}},
			{"d1", add(3, 30), yes, had(40), []pair{{2, 20}, {3, 30}, {9, 90}}},
			{"d2", put(4, 41), no, had(40), []pair{{2, 20}, {4, 41}, {9, 90}}},
			{"d2", add(4, 41), yes, had(40), []pair{{2, 20}, {4, 41}, {9, 90}}},
			{"d2", remove(4), no, had(40), []pair{{2, 20}, {9, 90}}},
			{"d2", remove(2), had(20), had(40), []pair{{9, 90}}},
			{"d2", get(9), had(90), had(40), []pair{{2, 20}, {9, 90}}},
		} {
			b, it, _, _ := laid(t, kind, remove(4), s.row)
			a, z := b.threads[0], b.threads[1]
			b.ask(z, s.other, s.told)
			b.run(a)
			if a.answer != s.want {
				t.Fatal(kind, s.row, s.other, "answers", a.answer)
			}
			b.has(s.pairs...)
			if s.row == "d2" && (len(a.own) != 1 || a.own[0].Slot != it[1].slot) {
				t.Error(kind, s.other, "has", a.own)
			}
			b.clean()
		}
	}
}

// P17.1: an Add, and a Put, of a key that came while a slot was taken for it: an Add drops the slot, which its next one takes at once; a Put brings it in.
func TestFoundAtLast(t *testing.T) {
	for _, kind := range kinds {
		for _, steps := range []int{8, 9, 10} {
			b := benchOf(t, kind, hash(4, 1), 2)
			a, z := b.threads[0], b.threads[1]
			b.begin(a, add(5, 1))
			b.steps(a, steps)
			b.ask(z, put(5, 2), no)
			b.run(a)
			if a.answer != kept(2) {
				t.Fatal(kind, steps, a.answer)
			}
			want := queue.Entry{Slot: 1}
			if kind != "plain" {
				want.Id = 1
			}
			if steps == 8 && !slices.Equal(a.core.Queue().List(), []queue.Entry{want}) {
				t.Fatal(kind, steps, a.core.Queue().List())
			}
			// With none held nothing is dropped.
			b.ask(a, add(5, 3), kept(2))
			if !slices.Equal(a.core.Queue().List(), []queue.Entry{want}) {
				t.Fatal(kind, steps, a.core.Queue().List())
			}
			b.begin(a, put(5, 4))
			b.steps(a, 9)
			// The slot 1 is held again by a birth, with no access of the fresh ones; it was never seen.
			if a.tell.row != "b" {
				t.Fatal(kind, steps, a.tell.row)
			}
			b.run(a)
			if a.answer != had(2) || !slices.Equal(b.linked(0), []int{1}) {
				t.Error(kind, steps, a.answer, b.linked(0))
			}
			b.clean()
		}
		b := benchOf(t, kind, hash(4, 1), 2)
		a, z := b.threads[0], b.threads[1]
		b.begin(a, put(5, 1))
		b.steps(a, 8)
		b.ask(z, add(5, 2), yes)
		b.run(a)
		if a.answer != had(2) || !slices.Equal(b.linked(0), []int{1}) || a.own[0].Slot != 2 {
			t.Error(kind, a.answer, b.linked(0), a.own)
		}
		b.has(pair{5, 1})
		b.clean()
	}
}

// P17.1: what a thread holds ahead of an op is left alone by a Get and a Remove; a Put, and an Add of what isn't there, bring it in; an Add of what is there drops it.
func TestHeldAhead(t *testing.T) {
	for _, kind := range kinds {
		for _, s := range []struct {
			op     api.Op
			want   api.Answer
			holds  bool
			own    []int
			linked []int
		}{
			{get(4), had(40), true, nil, []int{8, 3}},
			{get(5), no, true, nil, []int{8, 3}},
			{remove(4), had(40), true, []int{3}, []int{8}},
			{remove(5), no, true, nil, []int{8, 3}},
			{add(4, 41), kept(40), false, []int{7}, []int{8, 3}},
			{add(5, 50), yes, false, nil, []int{8, 3, 7}},
			{put(4, 41), had(40), false, []int{3}, []int{8, 7}},
			{put(5, 50), no, false, nil, []int{8, 3, 7}},
		} {
			b, th := at(t, kind, hash(9, 1), 6)
			b.lay(0, 4, item{slot: 8, key: 2}, item{slot: 3, key: 4, val: 40})
			b.born(th, 7, s.op.Key, s.op.Val)
			b.ask(th, s.op, s.want)
			var own []int
			for _, e := range th.core.Queue().List() {
				own = append(own, e.Slot)
			}
			if _, holds := th.core.Held(); holds != s.holds || !slices.Equal(own, s.own) || !slices.Equal(b.linked(0), s.linked) {
				t.Error(kind, s.op, holds, own, b.linked(0))
			}
			b.clean()
		}
	}
}

// P17.1: a slot that an Alloc came to ahead of a Put of another value is held with its own key and value: whose it is is told by its birth alone.
func TestBirth(t *testing.T) {
	for _, kind := range kinds {
		for _, o := range []api.Op{put(4, 70), add(5, 70), put(5, 0), put(4, math.MaxUint64)} {
			b, th := at(t, kind, hash(9, 1), 6)
			b.put(ref(freshCell), 8)
			b.lay(0, 4, item{slot: 8, key: 2}, item{slot: 3, key: 4, val: 40})
			for part, word := range map[int]uint64{birthPart: 99, retirePart: 98, keyPart: 97, valPart: 96} {
				b.put(by(soul.Who{Slot: 9}, part), word)
			}
			b.begin(th, o)
			b.till(th, "b val")
			b.steps(th, 1)
			for part, word := range map[int]uint64{birthPart: 6, retirePart: 0, keyPart: o.Key, valPart: o.Val} {
				if got := b.w.World.Load(by(th.held, part)).Word; got != word || th.held.Slot != 9 {
					t.Error(kind, o, part, got, th.held)
				}
			}
			b.run(th)
			b.clean()
		}
	}
}

// P17.1: no slot is left: ErrFull, also of a Put over a key that is there, and nothing changes; what comes to no slot goes on to be answered, and behind a Remove there is one.
func TestFull(t *testing.T) {
	for _, kind := range kinds {
		for _, buckets := range []int{1, 3} {
			b := benchOf(t, kind, hash(2, buckets), 2)
			a, z := b.threads[0], b.threads[1]
			b.ask(a, put(5, 1), no)
			// The last free slot.
			b.ask(a, put(7, 2), no)
			for range 3 {
				for _, th := range b.threads {
					for _, o := range []api.Op{put(6, 3), add(6, 3), put(5, 3), put(7, 3)} {
						// A search, f1, p1.
						b.begin(th, o)
						b.till(th, "f1")
						b.ends(th, 2, core.Done)
						if th.answer != refused(api.ErrFull) {
							t.Fatal(kind, o, th.answer)
						}
						b.has(pair{5, 1}, pair{7, 2})
					}
					b.ask(th, add(7, 3), kept(2))
					b.ask(th, get(5), had(1))
					b.ask(th, get(6), no)
					b.ask(th, remove(6), no)
				}
			}
			b.ask(z, remove(7), had(2))
			// The slot is z's own by now, and not a's.
			b.ask(a, put(6, 4), refused(api.ErrFull))
			b.ask(z, put(5, 5), had(1))
			b.ask(z, add(6, 6), yes)
			b.has(pair{5, 5}, pair{6, 6})
			b.clean()
		}
	}
}

// P17.1: the epoch is at the limit: a slot that was retired in it isn't born any more: ErrEpoch, told by the step that ended the search; all that comes to no slot goes on to be answered.
func TestLate(t *testing.T) {
	for _, kind := range kinds {
		for _, limit := range []int{2, 3} {
			b := benchOf(t, kind, limited(2, 1, limit), 1)
			th := b.threads[0]
			b.ask(th, put(5, 0), no)
			for i := range limit {
				b.ask(th, put(5, uint64(i+1)), had(uint64(i)))
			}
			last := uint64(limit)
			for range 3 {
				if n := b.ask(th, put(5, 9), refused(api.ErrEpoch)); n != 9 {
					t.Error(kind, n)
				}
				if n := b.ask(th, add(4, 9), refused(api.ErrEpoch)); n != 7 {
					t.Error(kind, n)
				}
				if n := b.ask(th, put(6, 9), refused(api.ErrEpoch)); n != 7 {
					t.Error(kind, n)
				}
				b.has(pair{5, last})
				b.ask(th, get(5), had(last))
				b.ask(th, add(5, 9), kept(last))
				b.ask(th, remove(6), no)
			}
			if got := b.w.World.Peek(epochCell); got != uint64(limit) || th.core.Queue().Len() != 1 {
				t.Error(kind, got, th.core.Queue().List())
			}
			b.ask(th, remove(5), had(last))
			b.ask(th, put(5, 9), refused(api.ErrEpoch))
			b.has()
			b.clean()
		}
	}
}

// P17.1: an Alloc is Late: the pool's version, or the epoch behind a slot that came out of the pool, is at the limit: ErrEpoch.
func TestLateAlloc(t *testing.T) {
	for _, kind := range kinds {
		for _, o := range []api.Op{put(5, 1), add(5, 1), put(4, 1)} {
			b := benchOf(t, kind, limited(3, 1, 9), 1)
			th := b.threads[0]
			b.lay(0, 4, item{slot: 3, key: 4, val: 40})
			searched := 7
			if o.Key == 4 {
				searched = 9
			}
			b.put(ref(freshCell), 3)
			b.put(ref(poolCell), link(2, 9))
			if n := b.ask(th, o, refused(api.ErrEpoch)); n != searched+2 {
				t.Error(kind, o, n)
			}
			b.put(ref(poolCell), link(2, 8))
			b.put(ref(part(2, retirePart)), 9)
			b.put(ref(epochCell), 9)
			if n := b.ask(th, o, refused(api.ErrEpoch)); n != searched+5 {
				t.Error(kind, o, n)
			}
			if got := th.core.Queue().List(); !slices.Equal(got, []queue.Entry{{Slot: 2, Retired: 9}}) {
				t.Error(kind, o, got)
			}
			b.has(pair{4, 40})
			b.ask(th, get(4), had(40))
		}
	}
}

// P17.1: a slot that was retired in this epoch: the epoch goes on, a new search, a birth, a new search, and the old slot goes.
func TestEpochGoesOn(t *testing.T) {
	for _, kind := range kinds {
		b := benchOf(t, kind, hash(2, 1), 1)
		th := b.threads[0]
		b.ask(th, put(5, 0), no)
		for i := range 5 {
			// A search (9), a1 (1), a search (9), a birth (4), a search (9), u1 (1), an Unlink (4); the first time a slot is fresh.
			if n := b.ask(th, put(5, uint64(i+1)), had(uint64(i))); n != []int{28, 37}[min(1, i)] {
				t.Error(kind, i, n)
			}
			if got := b.w.World.Peek(epochCell); got != uint64(i+1) || th.core.Epoch() != i+1 {
				t.Error(kind, i, got)
			}
			b.has(pair{5, uint64(i + 1)})
		}
		b.clean()
	}
}

// P17.1: the epoch goes on ahead of any one step of an op, and two others' acts of an Alloc too: it is answered as it would be, and nothing stale goes anywhere.
func TestRollsBack(t *testing.T) {
	for _, kind := range kinds {
		for _, o := range []api.Op{put(4, 70), put(5, 70), add(4, 70), add(5, 70), remove(4), get(4)} {
			rolled := 0
			for cut := 0; ; cut++ {
				b := benchOf(t, kind, hash(9, 1), 1)
				th := b.threads[0]
				it, _ := b.lay(0, 1, item{slot: 8, key: 2, val: 20}, item{slot: 3, key: 4, val: 40}, item{slot: 6, key: 9, val: 90})
				answer, linked := after(it, o, 1)
				b.begin(th, o)
				n := 0
				for ; n < cut && th.tell != nil; n++ {
					b.step(th)
				}
				if th.tell == nil {
					break
				}
				b.put(ref(epochCell), 2)
				b.run(th)
				if th.answer != answer || !slices.Equal(b.linked(0), linked) {
					t.Fatal(kind, o, cut, th.answer, b.linked(0))
				}
				rolled += th.rolls
				b.clean()
			}
			if rolled == 0 {
				t.Error(kind, o, "never rolled back")
			}
		}
	}
}

// P17.1: the pool's slots are taken by another one in the middle of an Alloc, which begins with the pool again; then a Put goes on, and the epoch goes on between the two steps of its Retire.
func TestPool(t *testing.T) {
	for _, kind := range kinds {
		b := benchOf(t, kind, hash(5, 1), 2)
		a, z := b.threads[0], b.threads[1]
		it, _ := b.lay(0, 1, item{slot: 3, key: 4, val: 40})
		b.put(ref(freshCell), 5)
		one, two := soul.Who{Slot: 1, Id: b.w.World.Born(1)}, soul.Who{Slot: 2, Id: b.w.World.Born(2)}
		b.w.World.Store(by(one, chainPart), world.Val{Word: link(2, 0), Id: two.Id})
		b.w.World.Store(ref(poolCell), world.Val{Word: link(1, 3), Id: one.Id})
		b.begin(a, put(4, 70))
		b.till(a, "p4")
		b.ask(z, add(5, 50), yes)
		b.steps(a, 1)
		if a.tell.row != "p1" {
			t.Fatal(kind, a.tell.row)
		}
		b.till(a, "r2")
		b.put(ref(epochCell), 2)
		b.ends(a, 1, core.Done)
		if a.answer != had(40) || !slices.Equal(b.linked(0), []int{2, 1}) {
			t.Error(kind, a.answer, b.linked(0))
		}
		if got := a.core.Queue().List(); !slices.Equal(got, []queue.Entry{{Slot: 3, Retired: 1, Id: it[0].id}}) {
			t.Error(kind, got)
		}
		b.clean()
	}
}

// P17.1: nothing at all: nil of a nil thread, and every method of nil.
func TestNil(t *testing.T) {
	for _, o := range []api.Op{put(5, 1), add(5, 1), remove(5), get(5), {}, {Kind: api.Give}} {
		if table.New(nil, o) != nil {
			t.Error(o)
		}
	}
	var op *table.Op
	for _, kind := range kinds {
		w := &watched{World: made(kind)}
		for _, w := range []world.World{w, nil} {
			if state := op.Step(w); state != core.Done {
				t.Error(kind, name(state))
			}
		}
		if op.Answer() != no {
			t.Error(kind, op.Answer())
		}
		w.idle(t)
	}
}

// P17.1: what can't be asked of a hash map, a Give, and structures that are none.
func TestCannot(t *testing.T) {
	for kind := -1; kind <= 10; kind++ {
		for _, key := range []uint64{0, 5, math.MaxUint64} {
			for _, value := range []uint64{0, 1, math.MaxUint64} {
				for _, level := range []int{0, 1, -1, math.MaxInt, math.MinInt} {
					o := api.Op{Kind: kind, Key: key, Val: value, Level: level}
					can := kind >= api.Put && kind <= api.Get && (value == 0 || kind == api.Put || kind == api.Add) && level == 0
					for _, conf := range []api.Config{hash(4, 1), hash(1, 64), hash(maxSlots, 7), limited(3, 3, 2)} {
						if (table.New(core.New(conf), o) != nil) != can {
							t.Error(conf, o, "can be asked:", !can)
						}
					}
					for _, conf := range []api.Config{list(4), skip(4)} {
						if table.New(core.New(conf), o) != nil {
							t.Error(conf, o, "is asked")
						}
					}
				}
			}
		}
	}
	for _, conf := range []api.Config{{}, hash(0, 1), hash(4, 0), hash(4, 65), limited(4, 1, 1)} {
		if table.New(core.New(conf), get(5)) != nil {
			t.Error(conf, "is asked")
		}
	}
}

// P17.1: New makes no access, and changes nothing of its thread; nor does an Answer.
func TestNewAlone(t *testing.T) {
	b, th := at(t, "ghost", hash(4, 3), 6)
	b.hold(th, soul.Who{Slot: 2, Id: 1})
	b.push(th, queue.Entry{Slot: 3, Retired: 6, Id: 4})
	for _, o := range []api.Op{get(5), put(5, 1), add(5, 1), remove(5)} {
		p := b.begin(th, o)
		for range 3 {
			if p.Answer() != no {
				t.Error(p.Answer())
			}
		}
		b.w.idle(t)
		b.same(th)
	}
}

// broken is a world that panics.
type broken struct{ world.World }

// P1: steps in worlds that are nil, or panic, make nothing and end.
func TestBroken(t *testing.T) {
	worlds := []world.World{nil, (*world.Plain)(nil), (*ghost.Ghost)(nil), (*ideal.Ideal)(nil), (*shade.Shade)(nil), (*broken)(nil), broken{}}
	for _, w := range worlds {
		for row := range 28 {
			for _, o := range []api.Op{get(5), put(5, 1), add(4, 1), remove(5)} {
				b, th := at(t, "plain", hash(4, 1), 6)
				b.lay(0, 6, item{slot: 4, key: 5})
				p := table.New(th.core, o)
				for range row {
					p.Step(b.w)
				}
				for range 30 {
					p.Step(w)
				}
			}
		}
	}
	// What a Put stores isn't made in no world, and is made then.
	b, _, _, _ := laid(t, "plain", put(4, 70), "u1")
	a := b.threads[0]
	for range 3 {
		if state := a.op.Step(nil); state != core.Busy {
			t.Error(name(state))
		}
	}
	b.same(a)
	b.run(a)
	b.has(pair{2, 20}, pair{4, 70}, pair{9, 90})
}
