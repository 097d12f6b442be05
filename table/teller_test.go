package table_test

import (
	"revenant/api"
	"revenant/core"
	"revenant/queue"
	"revenant/soul"
	"revenant/world"
)

// spot is where a lane ended.
type spot struct {
	at world.At
	w  world.Val
	x  world.Val
}

// teller tells what the chapters say of one op, row by row. A validation's row is that of its load, and a question mark.
type teller struct {
	b    *bench
	th   *thread
	op   api.Op
	root int
	row  string

	answer api.Answer
	spot   spot     // of a Link, an Unlink, and what u1 stores
	old    uint64   // the value that was found there
	to     soul.Who // of an Unlink
	clean  bool     // the search that goes on is that of an Unlink, which is not for values

	at    world.At  // of the search that goes on, or went on last
	w     world.Val // likewise
	x     world.Val // likewise
	k     uint64    // likewise
	v     uint64    // likewise
	found bool      // likewise

	h   world.Val // of an Alloc
	n   world.Val // likewise
	r   world.Val // of an Alloc, a Retire
	who soul.Who  // of a birth
}

// step tells the row's access, by the one that was made, and how the op stands behind it.
func (x *teller) step(a access, born []soul.Who) core.State {
	if (x.row == "b") != (len(born) == 1) || len(born) > 1 {
		x.b.t.Fatal(x.row, "births", born)
	}
	switch x.row {
	case "c", "w", "x", "cut", "k", "v", "w?", "x?", "k?", "v?":
		return x.search(a)
	case "a1", "f1", "p1", "p2", "p3", "p4":
		return x.come(a)
	case "b", "b retire", "b key", "b val":
		return x.birth(a, born)
	case "i1", "i2", "u1":
		return x.link(a)
	}
	return x.unlink(a)
}

// next: a row is the next one.
func (x *teller) next(row string) core.State {
	x.row = row
	return core.Busy
}

// search tells the rows of a search.
func (x *teller) search(a access) core.State {
	switch x.row {
	case "c":
		x.th.epoch, _ = ofInt(x.load(a, ref(epochCell)).Word)
		x.at, x.w, x.x, x.found = ref(rootCell(x.root)), world.Val{}, world.Val{}, false
		return x.next("w")
	case "w":
		x.w = x.load(a, x.at)
	case "x":
		x.x = x.load(a, by(lead(x.w), nextPart))
	case "k":
		x.k = x.load(a, by(lead(x.w), keyPart)).Word
	case "v":
		x.v = x.load(a, by(lead(x.w), valPart)).Word
	case "cut":
		to := world.Val{Word: link(slotOf(x.x.Word), x.th.epoch), Id: x.x.Id}
		if !x.swap(a, x.at, x.w, to) {
			return x.next("c")
		}
		return x.comeTo(to)
	default:
		if epoch, is := ofInt(x.load(a, ref(epochCell)).Word); !is || epoch != x.th.epoch {
			x.th.rolls++
			return x.next("c")
		}
		return x.valid()
	}
	return x.next(x.row + "?")
}

// valid is what comes of a load that holds.
func (x *teller) valid() core.State {
	switch {
	case x.row == "w?" && x.w.Word >= mark:
		return x.next("c")
	case x.row == "w?":
		return x.comeTo(x.w)
	case x.row == "x?" && x.x.Word >= mark:
		return x.next("cut")
	case x.row == "x?":
		return x.next("k")
	case x.row == "k?" && x.k < x.op.Key:
		x.at = by(lead(x.w), nextPart)
		return x.comeTo(x.x)
	case x.row == "k?" && x.k == x.op.Key && !x.clean:
		return x.next("v")
	}
	x.found = x.k == x.op.Key
	return x.searched()
}

// comeTo: at's link is that now.
func (x *teller) comeTo(w world.Val) core.State {
	x.w, x.x = w, world.Val{}
	if slotOf(w.Word) == 0 {
		return x.searched()
	}
	return x.next("x")
}

// searched is what comes behind a search.
func (x *teller) searched() core.State {
	if x.clean {
		x.clean = false
		return x.next("r1")
	}
	x.spot = spot{x.at, x.w, x.x}
	if x.found {
		x.old = x.v
		return x.there()
	}
	return x.missing()
}

// there is what comes behind a search that found the key.
func (x *teller) there() core.State {
	switch x.op.Kind {
	case api.Get:
		return x.over(had(x.old))
	case api.Remove:
		x.to = lead(x.x)
		return x.next("d1")
	case api.Add:
		if x.th.held.Slot != 0 {
			x.b.seen["drop"]++
			x.th.own = append(x.th.own, queue.Entry{Slot: x.th.held.Slot, Id: x.th.held.Id})
			x.th.held = soul.Who{}
		}
		return x.over(kept(x.old))
	}
	if x.th.held.Slot == 0 {
		return x.decide()
	}
	x.to = x.th.held
	return x.next("u1")
}

// missing is what comes behind a search that didn't.
func (x *teller) missing() core.State {
	switch {
	case x.op.Kind == api.Get || x.op.Kind == api.Remove:
		return x.over(no)
	case x.th.held.Slot == 0:
		return x.decide()
	}
	return x.next("i1")
}

// over: the op's answer is that.
func (x *teller) over(a api.Answer) core.State {
	x.answer = a
	return core.Done
}

// decide is what an Alloc does ahead of its first row, and behind a slot that came.
func (x *teller) decide() core.State {
	if len(x.th.own) == 0 {
		return x.next("f1")
	}
	if x.th.own[0].Retired < x.th.epoch {
		return x.next("b")
	}
	if x.th.epoch >= x.b.conf.Limit {
		x.b.seen["late "+x.row]++
		return x.over(refused(api.ErrEpoch))
	}
	return x.next("a1")
}

// come tells the rows of an Alloc ahead of the birth.
func (x *teller) come(a access) core.State {
	h := lead(x.h)
	switch x.row {
	case "a1":
		x.swap(a, ref(epochCell), val(uint64(x.th.epoch)), val(uint64(x.th.epoch)+1))
		return x.next("c")
	case "f1":
		if t := x.add(a, ref(freshCell)); t < uint64(x.b.conf.Slots) {
			x.th.own = append(x.th.own, queue.Entry{Slot: int(t) + 1})
			return x.decide()
		}
		return x.next("p1")
	case "p1":
		x.h = x.load(a, ref(poolCell))
		if slotOf(x.h.Word) == 0 {
			x.b.seen["full"]++
			return x.over(refused(api.ErrFull))
		}
		if versionOf(x.h.Word) >= x.b.conf.Limit {
			x.b.seen["late pool"]++
			return x.over(refused(api.ErrEpoch))
		}
		return x.next("p2")
	case "p2":
		x.n = x.load(a, by(h, chainPart))
		return x.next("p3")
	case "p3":
		x.r = x.load(a, by(h, retirePart))
		return x.next("p4")
	}
	if !x.swap(a, ref(poolCell), x.h, world.Val{Word: link(slotOf(x.n.Word), versionOf(x.h.Word)+1), Id: x.n.Id, Stale: x.n.Stale}) {
		return x.next("p1")
	}
	retired, _ := ofInt(x.r.Word)
	x.th.own = append(x.th.own, queue.Entry{Slot: h.Slot, Retired: retired, Id: h.Id})
	return x.decide()
}

// birth tells the rows of an Alloc from the birth on.
func (x *teller) birth(a access, born []soul.Who) core.State {
	switch x.row {
	case "b":
		if born[0].Slot != x.th.own[0].Slot {
			x.b.t.Fatal("born is", born[0], "not the head of", x.th.own)
		}
		x.who, x.th.own = born[0], x.th.own[1:]
		if x.who.Slot >= 1 && x.who.Slot <= x.b.conf.Slots {
			x.th.held = x.who
		}
		x.store(a, by(x.who, birthPart), val(uint64(x.th.epoch)))
		return x.next("b retire")
	case "b retire":
		x.store(a, by(x.who, retirePart), val(0))
		return x.next("b key")
	case "b key":
		x.store(a, by(x.who, keyPart), val(x.op.Key))
		return x.next("b val")
	}
	x.store(a, by(x.who, valPart), val(x.op.Val))
	return x.next("c")
}

// link tells the rows of a Link, and of a Put what it stores ahead of its Unlink.
func (x *teller) link(a access) core.State {
	switch x.row {
	case "u1":
		x.store(a, by(x.th.held, nextPart), world.Val{Word: link(slotOf(x.spot.x.Word), x.th.epoch), Id: x.spot.x.Id})
		return x.next("d1")
	case "i1":
		x.store(a, by(x.th.held, nextPart), world.Val{Word: link(slotOf(x.spot.w.Word), x.th.epoch), Id: x.spot.w.Id})
		return x.next("i2")
	}
	if !x.swap(a, x.spot.at, x.spot.w, world.Val{Word: link(x.th.held.Slot, x.th.epoch), Id: x.th.held.Id}) {
		return x.next("c")
	}
	x.th.held = soul.Who{}
	return x.over(api.Answer{Done: x.op.Kind == api.Add})
}

// unlink tells the rows of an Unlink, but for those of its search.
func (x *teller) unlink(a access) core.State {
	c := lead(x.spot.w)
	switch x.row {
	case "d1":
		if !x.swap(a, by(c, nextPart), x.spot.x, world.Val{Word: marked(x.to.Slot, x.th.epoch), Id: x.to.Id}) {
			return x.next("c")
		}
		if x.th.held == x.to {
			x.th.held = soul.Who{}
		}
		return x.next("d2")
	case "d2":
		if x.swap(a, x.spot.at, x.spot.w, world.Val{Word: link(x.to.Slot, x.th.epoch), Id: x.to.Id}) {
			return x.next("r1")
		}
		x.clean = true
		return x.next("c")
	case "r1":
		x.r = x.load(a, ref(epochCell))
		return x.next("r2")
	}
	x.store(a, by(c, retirePart), x.r)
	retired, _ := ofInt(x.r.Word)
	x.th.own = append(x.th.own, queue.Entry{Slot: c.Slot, Retired: retired, Id: c.Id})
	return x.over(had(x.old))
}

// must is that the access was of a kind, and by that reference.
func (x *teller) must(a access, kind string, at world.At) {
	if a.kind != kind || a.at != at {
		x.b.t.Fatal(x.b.kind, x.b.conf, x.row, "made", a, "not a", kind, "of", at)
	}
}

// load is what was loaded there.
func (x *teller) load(a access, at world.At) world.Val {
	x.must(a, "load", at)
	if a.got.Stale {
		x.b.seen["stale "+x.row]++
	}
	return a.got
}

// store is that this was stored there.
func (x *teller) store(a access, at world.At, v world.Val) {
	x.must(a, "store", at)
	if a.new != v {
		x.b.t.Fatal(x.b.kind, x.b.conf, x.row, "stored", a.new, "not", v)
	}
}

// swap is that this was swapped there, and whether it was done.
func (x *teller) swap(a access, at world.At, old, new world.Val) bool {
	x.must(a, "swap", at)
	if a.old != old || a.new != new {
		x.b.t.Fatal(x.b.kind, x.b.conf, x.row, "swapped", a, "not", old, new)
	}
	if !a.done {
		x.b.seen["failed "+x.row]++
	}
	return a.done
}

// add is that 1 was added there, and what was there.
func (x *teller) add(a access, at world.At) uint64 {
	x.must(a, "add", at)
	if a.n != 1 {
		x.b.t.Fatal(x.b.kind, x.b.conf, x.row, "added", a)
	}
	return a.was
}
