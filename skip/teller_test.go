package skip_test

import (
	"slices"
	"strconv"

	"revenant/api"
	"revenant/core"
	"revenant/queue"
	"revenant/soul"
	"revenant/world"
)

// told is what the chapters say of the lane of one level.
type told struct {
	at    world.At
	w     world.Val
	x     world.Val
	k     uint64
	found bool
}

// who is c; the zero one, if there is none.
func (l told) who() soul.Who {
	if slotOf(l.w.Word) == 0 {
		return soul.Who{}
	}
	return lead(l.w)
}

// teller tells what the chapters say of one op, row by row. A validation's row is that of its load, and a question mark.
type teller struct {
	b   *bench
	th  *thread
	op  api.Op
	row string

	answer api.Answer
	levels []told // of the Find that goes on, or went on last
	lane   int    // the level of its lane that goes on
	then   string // what comes behind it: what the op does, or what comes behind a u, or a Retire

	mine  soul.Who  // n of an Insert, c of a Delete
	level int       // l
	t     uint64    // of a Delete
	y     world.Val // likewise
	anew  bool      // whether a Find came behind s

	h   world.Val // of an Alloc
	n   world.Val // likewise
	r   world.Val // of an Alloc, a Retire
	who soul.Who  // of a birth
}

// name is that of the next row, with its level.
func (x *teller) name() string {
	switch x.row {
	case "w", "x", "cut", "k", "w?", "x?", "k?":
		return x.row + " " + strconv.Itoa(x.lane)
	case "s", "u", "v", "y2", "f", "f?", "f2":
		return x.row + " " + strconv.Itoa(x.level)
	}
	return x.row
}

// step tells the row's access, by the one that was made, and how the op stands behind it.
func (x *teller) step(a access, born []soul.Who) core.State {
	if (x.row == "b") != (len(born) == 1) || len(born) > 1 {
		x.b.t.Fatal(x.row, "births", born)
	}
	switch x.row {
	case "c", "w", "x", "cut", "k", "w?", "x?", "k?":
		return x.find(a)
	case "a1", "f1", "p1", "p2", "p3", "p4":
		return x.come(a)
	case "b", "b retire", "b key", "b top", "b state":
		return x.birth(a, born)
	case "s", "t", "u", "v", "y2", "z":
		return x.insert(a)
	case "r1", "r2":
		return x.retire(a)
	}
	return x.remove(a)
}

// next: a row is the next one.
func (x *teller) next(row string) core.State {
	x.row = row
	return core.Busy
}

// finds: a new Find; then: what comes behind it.
func (x *teller) finds(then string) core.State {
	x.then = then
	return x.next("c")
}

// now is the lane that goes on.
func (x *teller) now() *told { return &x.levels[x.lane] }

// find tells the rows of a Find.
func (x *teller) find(a access) core.State {
	switch x.row {
	case "c":
		x.th.epoch, _ = ofInt(x.load(a, ref(epochCell)).Word)
		x.levels = make([]told, x.b.conf.Height)
		return x.along(x.b.conf.Height-1, ref(root(x.b.conf.Height-1)))
	case "w":
		x.now().w = x.load(a, x.now().at)
	case "x":
		x.now().x = x.load(a, next(lead(x.now().w), x.lane))
	case "k":
		x.now().k = x.load(a, by(lead(x.now().w), keyPart)).Word
	case "cut":
		rest := to(lead(x.now().x), x.th.epoch)
		if !x.swap(a, x.now().at, x.now().w, rest) {
			return x.next("c")
		}
		return x.comeTo(rest)
	default:
		if !x.valid(a) {
			return x.next("c")
		}
		return x.behind()
	}
	return x.next(x.row + "?")
}

// along: the lane of a level begins.
func (x *teller) along(level int, from world.At) core.State {
	x.lane = level
	*x.now() = told{at: from}
	return x.next("w")
}

// behind is what comes of a Find's load that was valid.
func (x *teller) behind() core.State {
	l := x.now()
	switch {
	case x.row == "w?" && l.w.Word >= mark:
		return x.next("c")
	case x.row == "w?":
		return x.comeTo(l.w)
	case x.row == "x?" && l.x.Word >= mark:
		return x.next("cut")
	case x.row == "x?":
		return x.next("k")
	case l.k < x.op.Key:
		l.at = next(lead(l.w), x.lane)
		return x.comeTo(l.x)
	}
	l.found = l.k == x.op.Key
	return x.down()
}

// comeTo: at's link is that now.
func (x *teller) comeTo(w world.Val) core.State {
	x.now().w, x.now().x = w, world.Val{}
	if slotOf(w.Word) == 0 {
		return x.down()
	}
	return x.next("x")
}

// down is what comes behind a lane that is done.
func (x *teller) down() core.State {
	at, below := x.now().at, x.lane-1
	switch {
	case x.lane == 0:
		return x.found()
	case at.Place.Kind == 4:
		return x.along(below, ref(root(below)))
	}
	return x.along(below, next(soul.Who{Slot: at.Place.Slot, Id: at.Id}, below))
}

// found is what comes behind a Find.
func (x *teller) found() core.State {
	c := x.levels[0].who()
	switch x.then {
	case "retire":
		return x.next("r1")
	case "u":
		x.anew = true
		if c != x.mine {
			x.b.seen["isn't n"]++
			return x.next("z")
		}
		x.b.seen["is n"]++
		return x.next("v")
	}
	return x.searched(c, x.levels[0].found)
}

// searched is what the op does where its key is to be.
func (x *teller) searched(c soul.Who, found bool) core.State {
	switch {
	case x.op.Kind == api.Has:
		return x.over(api.Answer{Done: found})
	case x.op.Kind == api.Delete && found:
		x.mine = c
		return x.next("e")
	case x.op.Kind == api.Delete:
		return x.over(no)
	case found:
		if x.th.held.Slot != 0 {
			x.b.seen["drop"]++
			x.th.own = append(x.th.own, queue.Entry{Slot: x.th.held.Slot, Id: x.th.held.Id})
			x.th.held = soul.Who{}
		}
		return x.over(no)
	case x.th.held.Slot == 0:
		return x.decide()
	case slices.ContainsFunc(x.levels[1:x.op.Level], func(l told) bool { return l.found }):
		x.b.seen["hides"]++
		return x.finds("")
	}
	x.mine, x.level, x.anew = x.th.held, 0, false
	return x.next("s")
}

// over: the op's answer is that.
func (x *teller) over(a api.Answer) core.State {
	x.answer = a
	return core.Done
}

// decide is what an Alloc does ahead of its first row, and behind a slot that came.
func (x *teller) decide() core.State {
	if len(x.th.own) == 0 {
		return x.next("f1")
	}
	if x.th.own[0].Retired < x.th.epoch {
		return x.next("b")
	}
	if x.th.epoch >= x.b.conf.Limit {
		x.b.seen["late "+x.row]++
		return x.over(refused(api.ErrEpoch))
	}
	return x.next("a1")
}

// come tells the rows of an Alloc ahead of the birth.
func (x *teller) come(a access) core.State {
	h := lead(x.h)
	switch x.row {
	case "a1":
		x.swap(a, ref(epochCell), val(uint64(x.th.epoch)), val(uint64(x.th.epoch)+1))
		return x.finds("")
	case "f1":
		if t := x.add(a, ref(freshCell)); t < uint64(x.b.conf.Slots) {
			x.th.own = append(x.th.own, queue.Entry{Slot: int(t) + 1})
			return x.decide()
		}
		return x.next("p1")
	case "p1":
		x.h = x.load(a, ref(poolCell))
		if slotOf(x.h.Word) == 0 {
			x.b.seen["full"]++
			return x.over(refused(api.ErrFull))
		}
		if versionOf(x.h.Word) >= x.b.conf.Limit {
			x.b.seen["late pool"]++
			return x.over(refused(api.ErrEpoch))
		}
		return x.next("p2")
	case "p2":
		x.n = x.load(a, by(h, chainPart))
		return x.next("p3")
	case "p3":
		x.r = x.load(a, by(h, retirePart))
		return x.next("p4")
	}
	if !x.swap(a, ref(poolCell), x.h, world.Val{Word: link(slotOf(x.n.Word), versionOf(x.h.Word)+1), Id: x.n.Id, Stale: x.n.Stale}) {
		return x.next("p1")
	}
	retired, _ := ofInt(x.r.Word)
	x.th.own = append(x.th.own, queue.Entry{Slot: h.Slot, Retired: retired, Id: h.Id})
	return x.decide()
}

// birth tells the rows of an Alloc from the birth on.
func (x *teller) birth(a access, born []soul.Who) core.State {
	switch x.row {
	case "b":
		if born[0].Slot != x.th.own[0].Slot {
			x.b.t.Fatal("born is", born[0], "not the head of", x.th.own)
		}
		x.who, x.th.own = born[0], x.th.own[1:]
		if x.who.Slot >= 1 && x.who.Slot <= x.b.conf.Slots {
			x.th.held = x.who
		}
		x.store(a, by(x.who, birthPart), val(uint64(x.th.epoch)))
		return x.next("b retire")
	case "b retire":
		x.store(a, by(x.who, retirePart), val(0))
		return x.next("b key")
	case "b key":
		x.store(a, by(x.who, keyPart), val(x.op.Key))
		return x.next("b top")
	case "b top":
		x.store(a, by(x.who, topPart), val(uint64(x.op.Level)))
		return x.next("b state")
	}
	x.store(a, by(x.who, statePart), val(0))
	return x.finds("")
}

// ahead is a link to where the Find ended at the level.
func (x *teller) ahead() world.Val { return to(lead(x.levels[x.level].w), x.th.epoch) }

// put is that the link at which the Find ended at the level was swapped to n, and whether it was.
func (x *teller) put(a access) bool {
	return x.swap(a, x.levels[x.level].at, x.levels[x.level].w, to(x.mine, x.th.epoch))
}

// insert tells the rows of an Insert's table.
func (x *teller) insert(a access) core.State {
	switch x.row {
	case "s":
		x.store(a, next(x.mine, x.level), x.ahead())
		if x.level++; x.level < x.op.Level {
			return x.next("s")
		}
		x.level = 0
		return x.next("t")
	case "t":
		if !x.put(a) {
			return x.finds("")
		}
		x.th.held, x.level = soul.Who{}, 1
		if x.op.Level > 1 {
			return x.next("u")
		}
		return x.next("z")
	case "u":
		if !x.put(a) {
			return x.finds("u")
		}
		if x.level++; x.level == x.op.Level {
			return x.next("z")
		}
		if !x.anew {
			return x.next("u")
		}
		return x.next("v")
	case "v":
		x.y = x.load(a, next(x.mine, x.level))
		if x.y.Word >= mark {
			return x.next("z")
		}
		if x.y.Word == x.ahead().Word {
			return x.next("u")
		}
		return x.next("y2")
	case "y2":
		if x.swap(a, next(x.mine, x.level), x.y, x.ahead()) {
			return x.next("u")
		}
		return x.next("z")
	}
	return x.settle(a, 1)
}

// settle tells the rows z and h.
func (x *teller) settle(a access, state uint64) core.State {
	if x.swap(a, by(x.mine, statePart), val(0), val(state)) {
		return x.over(yes)
	}
	return x.finds("retire")
}

// remove tells the rows of a Delete's table.
func (x *teller) remove(a access) core.State {
	switch x.row {
	case "e":
		x.t = x.load(a, by(x.mine, topPart)).Word
		return x.next("e?")
	case "f", "g":
		x.y = x.load(a, next(x.mine, x.level))
		return x.next(x.row + "?")
	case "f2":
		if x.mark(a) {
			x.level--
		}
		return x.forg()
	case "g2":
		if x.mark(a) {
			return x.next("h")
		}
		return x.next("g")
	case "h":
		return x.settle(a, 2)
	}
	if !x.valid(a) {
		return x.finds("")
	}
	return x.holds()
}

// holds is what comes of a Delete's load that was valid.
func (x *teller) holds() core.State {
	switch {
	case x.row == "e?":
		t := 1
		if x.t >= 1 && x.t <= uint64(x.b.conf.Height) {
			t = int(x.t)
		} else {
			x.b.seen["no Top"]++
		}
		x.level = t - 1
		return x.forg()
	case x.row == "f?" && x.y.Word >= mark:
		x.b.seen["marked f"]++
		x.level--
		return x.forg()
	case x.row == "f?":
		return x.next("f2")
	case x.y.Word >= mark:
		x.b.seen["marked g"]++
		return x.finds("")
	}
	return x.next("g2")
}

// forg: f, if l is above 0, else g.
func (x *teller) forg() core.State {
	if x.level > 0 {
		return x.next("f")
	}
	return x.next("g")
}

// mark is that c's link at the level was marked, and whether it was.
func (x *teller) mark(a access) bool {
	return x.swap(a, next(x.mine, x.level), x.y, world.Val{Word: marked(slotOf(x.y.Word), x.th.epoch), Id: x.y.Id})
}

// retire tells the rows of a Retire.
func (x *teller) retire(a access) core.State {
	if x.row == "r1" {
		x.r = x.load(a, ref(epochCell))
		return x.next("r2")
	}
	x.store(a, by(x.mine, retirePart), x.r)
	retired, _ := ofInt(x.r.Word)
	x.th.own = append(x.th.own, queue.Entry{Slot: x.mine.Slot, Retired: retired, Id: x.mine.Id})
	return x.over(yes)
}

// valid is that the epoch was loaded, and whether it is the thread's.
func (x *teller) valid(a access) bool {
	if epoch, is := ofInt(x.load(a, ref(epochCell)).Word); is && epoch == x.th.epoch {
		return true
	}
	x.th.rolls++
	x.b.seen["invalid "+x.name()]++
	return false
}

// must is that the access was of a kind, and by that reference.
func (x *teller) must(a access, kind string, at world.At) {
	if a.kind != kind || a.at != at {
		x.b.t.Fatal(x.b.kind, x.b.conf, x.name(), "made", a, "not a", kind, "of", at)
	}
}

// load is what was loaded there.
func (x *teller) load(a access, at world.At) world.Val {
	x.must(a, "load", at)
	if a.got.Stale {
		x.b.seen["stale "+x.row]++
	}
	return a.got
}

// store is that this was stored there.
func (x *teller) store(a access, at world.At, v world.Val) {
	x.must(a, "store", at)
	if a.new != v {
		x.b.t.Fatal(x.b.kind, x.b.conf, x.name(), "stored", a.new, "not", v)
	}
}

// swap is that this was swapped there, and whether it was done.
func (x *teller) swap(a access, at world.At, old, new world.Val) bool {
	x.must(a, "swap", at)
	if a.old != old || a.new != new {
		x.b.t.Fatal(x.b.kind, x.b.conf, x.name(), "swapped", a, "not", old, new)
	}
	if !a.done {
		x.b.seen["failed "+x.name()]++
	}
	return a.done
}

// add is that 1 was added there, and what was there.
func (x *teller) add(a access, at world.At) uint64 {
	x.must(a, "add", at)
	if a.n != 1 {
		x.b.t.Fatal(x.b.kind, x.b.conf, x.name(), "added", a)
	}
	return a.was
}
