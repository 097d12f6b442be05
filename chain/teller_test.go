package chain_test

import (
	"revenant/api"
	"revenant/core"
	"revenant/queue"
	"revenant/soul"
	"revenant/world"
)

// spot is where a lane ended.
type spot struct {
	at world.At
	w  world.Val
	x  world.Val
}

// who is c; the zero one, if there is none.
func (s spot) who() soul.Who {
	if slotOf(s.w.Word) == 0 {
		return soul.Who{}
	}
	return lead(s.w)
}

// teller tells what the chapters say of one machine, row by row: of an op, a Link, an Unlink, or a search alone. A validation's row is that of its load, and a question mark.
type teller struct {
	b    *bench
	th   *thread
	what string
	row  string

	op     api.Op
	answer api.Answer
	root   int
	key    uint64
	to     soul.Who // of an Unlink
	spot   spot     // of a Link, an Unlink
	clean  bool     // the search that goes on is that of an Unlink

	at    world.At  // of the search that goes on, or went on last
	w     world.Val // likewise
	x     world.Val // likewise
	k     uint64    // likewise
	found bool      // likewise

	h   world.Val // of an Alloc
	n   world.Val // likewise
	r   world.Val // of an Alloc, a Retire
	who soul.Who  // of a birth
}

// step tells the row's access, by the one that was made, and how the machine stands behind it.
func (x *teller) step(a access, born []soul.Who) core.State {
	if (x.row == "b") != (len(born) == 1) || len(born) > 1 {
		x.b.t.Fatal(x.row, "births", born)
	}
	switch x.row {
	case "c", "w", "x", "cut", "k", "w?", "x?", "k?":
		return x.search(a)
	case "a1", "f1", "p1", "p2", "p3", "p4":
		return x.come(a)
	case "b", "b retire", "b key":
		return x.birth(a, born)
	case "i1", "i2":
		return x.link(a)
	}
	return x.unlink(a)
}

// next: a row is the next one.
func (x *teller) next(row string) core.State {
	x.row = row
	return core.Busy
}

// search tells the rows of a search.
func (x *teller) search(a access) core.State {
	switch x.row {
	case "c":
		x.th.epoch, _ = ofInt(x.load(a, ref(epochCell)).Word)
		x.at, x.w, x.x, x.found = ref(api.Place{Kind: 4, Part: x.root}), world.Val{}, world.Val{}, false
		return x.next("w")
	case "w":
		x.w = x.load(a, x.at)
	case "x":
		x.x = x.load(a, by(lead(x.w), nextPart))
	case "k":
		x.k = x.load(a, by(lead(x.w), keyPart)).Word
	case "cut":
		to := world.Val{Word: link(slotOf(x.x.Word), x.th.epoch), Id: x.x.Id}
		if !x.swap(a, x.at, x.w, to) {
			return x.next("c")
		}
		return x.comeTo(to)
	default:
		if epoch, is := ofInt(x.load(a, ref(epochCell)).Word); !is || epoch != x.th.epoch {
			x.th.rolls++
			return x.next("c")
		}
		return x.valid()
	}
	return x.next(x.row + "?")
}

// valid is what comes of a load that holds.
func (x *teller) valid() core.State {
	switch {
	case x.row == "w?" && x.w.Word >= mark:
		return x.next("c")
	case x.row == "w?":
		return x.comeTo(x.w)
	case x.row == "x?" && x.x.Word >= mark:
		return x.next("cut")
	case x.row == "x?":
		return x.next("k")
	case x.k < x.key:
		x.at = by(lead(x.w), nextPart)
		return x.comeTo(x.x)
	}
	x.found = x.k == x.key
	return x.searched()
}

// comeTo: at's link is that now.
func (x *teller) comeTo(w world.Val) core.State {
	x.w, x.x = w, world.Val{}
	if slotOf(w.Word) == 0 {
		return x.searched()
	}
	return x.next("x")
}

// searched is what comes behind a search.
func (x *teller) searched() core.State {
	s := spot{x.at, x.w, x.x}
	switch {
	case x.clean:
		x.clean = false
		return x.next("r1")
	case x.what == "search":
		return core.Done
	case x.op.Kind == api.Delete && x.found:
		x.spot, x.to = s, lead(x.x)
		return x.next("d1")
	case x.op.Kind == api.Insert && !x.found && x.th.held.Slot != 0:
		x.spot = s
		return x.next("i1")
	case x.op.Kind == api.Insert && !x.found:
		return x.decide()
	case x.op.Kind == api.Insert:
		x.b.seen["drop"] += min(1, x.th.held.Slot)
		if x.th.held.Slot != 0 {
			x.th.own = append(x.th.own, queue.Entry{Slot: x.th.held.Slot, Id: x.th.held.Id})
			x.th.held = soul.Who{}
		}
		return x.over(api.Answer{})
	}
	return x.over(api.Answer{Done: x.found})
}

// over: an op's answer is that.
func (x *teller) over(a api.Answer) core.State {
	x.answer = a
	return core.Done
}

// again: what it read may not hold.
func (x *teller) again() core.State {
	if x.what == "op" {
		return x.next("c")
	}
	return core.Again
}

// done: it did what it was to.
func (x *teller) done() core.State {
	if x.what == "op" {
		return x.over(yes)
	}
	return core.Done
}

// decide is what an Alloc does ahead of its first row, and behind a slot that came.
func (x *teller) decide() core.State {
	if len(x.th.own) == 0 {
		return x.next("f1")
	}
	if x.th.own[0].Retired < x.th.epoch {
		return x.next("b")
	}
	if x.th.epoch >= x.b.conf.Limit {
		x.b.seen["late "+x.row]++
		return x.over(refused(api.ErrEpoch))
	}
	return x.next("a1")
}

// come tells the rows of an Alloc ahead of the birth.
func (x *teller) come(a access) core.State {
	h := lead(x.h)
	switch x.row {
	case "a1":
		x.swap(a, ref(epochCell), val(uint64(x.th.epoch)), val(uint64(x.th.epoch)+1))
		return x.next("c")
	case "f1":
		if t := x.add(a, ref(freshCell)); t < uint64(x.b.conf.Slots) {
			x.th.own = append(x.th.own, queue.Entry{Slot: int(t) + 1})
			return x.decide()
		}
		return x.next("p1")
	case "p1":
		x.h = x.load(a, ref(poolCell))
		if slotOf(x.h.Word) == 0 {
			x.b.seen["full"]++
			return x.over(refused(api.ErrFull))
		}
		if versionOf(x.h.Word) >= x.b.conf.Limit {
			x.b.seen["late pool"]++
			return x.over(refused(api.ErrEpoch))
		}
		return x.next("p2")
	case "p2":
		x.n = x.load(a, by(h, chainPart))
		return x.next("p3")
	case "p3":
		x.r = x.load(a, by(h, retirePart))
		return x.next("p4")
	}
	if !x.swap(a, ref(poolCell), x.h, world.Val{Word: link(slotOf(x.n.Word), versionOf(x.h.Word)+1), Id: x.n.Id, Stale: x.n.Stale}) {
		return x.next("p1")
	}
	retired, _ := ofInt(x.r.Word)
	x.th.own = append(x.th.own, queue.Entry{Slot: h.Slot, Retired: retired, Id: h.Id})
	return x.decide()
}

// birth tells the rows of an Alloc from the birth on.
func (x *teller) birth(a access, born []soul.Who) core.State {
	switch x.row {
	case "b":
		if born[0].Slot != x.th.own[0].Slot {
			x.b.t.Fatal("born is", born[0], "not the head of", x.th.own)
		}
		x.who, x.th.own = born[0], x.th.own[1:]
		if x.who.Slot >= 1 && x.who.Slot <= x.b.conf.Slots {
			x.th.held = x.who
		}
		x.store(a, by(x.who, birthPart), val(uint64(x.th.epoch)))
		return x.next("b retire")
	case "b retire":
		x.store(a, by(x.who, retirePart), val(0))
		return x.next("b key")
	}
	x.store(a, by(x.who, keyPart), val(x.op.Key))
	return x.next("c")
}

// link tells the rows of a Link.
func (x *teller) link(a access) core.State {
	if x.row == "i1" {
		x.store(a, by(x.th.held, nextPart), world.Val{Word: link(slotOf(x.spot.w.Word), x.th.epoch), Id: x.spot.w.Id})
		return x.next("i2")
	}
	if !x.swap(a, x.spot.at, x.spot.w, world.Val{Word: link(x.th.held.Slot, x.th.epoch), Id: x.th.held.Id}) {
		return x.again()
	}
	x.th.held = soul.Who{}
	return x.done()
}

// unlink tells the rows of an Unlink, but for those of its search.
func (x *teller) unlink(a access) core.State {
	c := x.spot.who()
	switch x.row {
	case "d1":
		if !x.swap(a, by(c, nextPart), x.spot.x, world.Val{Word: marked(x.to.Slot, x.th.epoch), Id: x.to.Id}) {
			return x.again()
		}
		if x.th.held == x.to && x.to.Slot != 0 {
			x.th.held = soul.Who{}
			x.b.seen["to held"]++
		}
		return x.next("d2")
	case "d2":
		if x.swap(a, x.spot.at, x.spot.w, world.Val{Word: link(x.to.Slot, x.th.epoch), Id: x.to.Id}) {
			return x.next("r1")
		}
		x.clean = true
		return x.next("c")
	case "r1":
		x.r = x.load(a, ref(epochCell))
		return x.next("r2")
	}
	x.store(a, by(c, retirePart), x.r)
	retired, _ := ofInt(x.r.Word)
	x.th.own = append(x.th.own, queue.Entry{Slot: c.Slot, Retired: retired, Id: c.Id})
	return x.done()
}

// must is that the access was of a kind, and by that reference.
func (x *teller) must(a access, kind string, at world.At) {
	if a.kind != kind || a.at != at {
		x.b.t.Fatal(x.b.kind, x.b.conf, x.row, "made", a, "not a", kind, "of", at)
	}
}

// load is what was loaded there.
func (x *teller) load(a access, at world.At) world.Val {
	x.must(a, "load", at)
	if a.got.Stale {
		x.b.seen["stale "+x.row]++
	}
	return a.got
}

// store is that this was stored there.
func (x *teller) store(a access, at world.At, v world.Val) {
	x.must(a, "store", at)
	if a.new != v {
		x.b.t.Fatal(x.b.kind, x.b.conf, x.row, "stored", a.new, "not", v)
	}
}

// swap is that this was swapped there, and whether it was done.
func (x *teller) swap(a access, at world.At, old, new world.Val) bool {
	x.must(a, "swap", at)
	if a.old != old || a.new != new {
		x.b.t.Fatal(x.b.kind, x.b.conf, x.row, "swapped", a, "not", old, new)
	}
	if !a.done {
		x.b.seen["failed "+x.row]++
	}
	return a.done
}

// add is that 1 was added there, and what was there.
func (x *teller) add(a access, at world.At) uint64 {
	x.must(a, "add", at)
	if a.n != 1 {
		x.b.t.Fatal(x.b.kind, x.b.conf, x.row, "added", a)
	}
	return a.was
}
