package tower_test

import (
	"strconv"

	"revenant/core"
	"revenant/soul"
	"revenant/world"
)

// told is what the chapters say of the lane of one level.
type told struct {
	at    world.At
	w     world.Val
	x     world.Val
	k     uint64
	found bool
}

// who is c; the zero one, if there is none.
func (l told) who() soul.Who {
	if slotOf(l.w.Word) == 0 {
		return soul.Who{}
	}
	return lead(l.w)
}

// cutOff is somebody who was cut off, or was to be, and at which level.
type cutOff struct {
	who   soul.Who
	level int
}

// teller tells what chapters 18 and 15 say of one Find, row by row; a validation's row is that of its load, and a question mark.
type teller struct {
	b      *bench
	th     *thread
	row    string
	key    uint64
	level  int
	levels []told
	met    []cutOff // since the last checkpoint
}

// name is that of the next row, with its level.
func (x *teller) name() string {
	if x.row == "c" {
		return "c"
	}
	return x.row + " " + strconv.Itoa(x.level)
}

// now is the lane that goes on.
func (x *teller) now() *told { return &x.levels[x.level] }

// step tells the row's access, by the one that was made, and how it stands behind it.
func (x *teller) step(a access) core.State {
	switch x.row {
	case "c":
		x.th.epoch, _ = ofInt(x.load(a, ref(epochCell)).Word)
		x.levels, x.met = make([]told, x.b.conf.Height), nil
		return x.lane(x.b.conf.Height-1, ref(root(x.b.conf.Height-1)))
	case "w":
		x.now().w = x.load(a, x.now().at)
	case "x":
		x.now().x = x.load(a, next(lead(x.now().w), x.level))
	case "k":
		x.now().k = x.load(a, by(lead(x.now().w), keyPart)).Word
	case "cut":
		return x.cut(a)
	default:
		if epoch, is := ofInt(x.load(a, ref(epochCell)).Word); !is || epoch != x.th.epoch {
			x.th.rolls++
			x.b.seen["invalid "+x.name()]++
			return x.to("c")
		}
		return x.behind()
	}
	return x.to(x.row + "?")
}

// to: a row is the next one.
func (x *teller) to(row string) core.State {
	x.row = row
	return core.Busy
}

// lane: that of a level begins.
func (x *teller) lane(level int, from world.At) core.State {
	x.level = level
	*x.now() = told{at: from}
	return x.to("w")
}

// behind is what comes of a load that was valid.
func (x *teller) behind() core.State {
	l := x.now()
	switch x.row {
	case "w?":
		if l.w.Word >= mark {
			x.b.seen["marked "+x.name()]++
			return x.to("c")
		}
		return x.come(l.w)
	case "x?":
		if l.x.Word >= mark {
			x.met = append(x.met, cutOff{lead(l.w), x.level})
			return x.to("cut")
		}
		return x.to("k")
	}
	if l.k < x.key {
		l.at = next(lead(l.w), x.level)
		return x.come(l.x)
	}
	l.found = l.k == x.key
	return x.down()
}

// come: At's link is that now.
func (x *teller) come(w world.Val) core.State {
	x.now().w, x.now().x = w, world.Val{}
	if slotOf(w.Word) == 0 {
		return x.down()
	}
	return x.to("x")
}

// cut is the row of that name.
func (x *teller) cut(a access) core.State {
	l := x.now()
	rest := to(lead(l.x), x.th.epoch)
	if a.kind != "swap" || a.at != l.at || a.old != l.w || a.new != rest {
		x.b.t.Fatal(x.b.kind, x.b.conf, x.name(), "made", a, "not a swap of", l.at, l.w, rest)
	}
	if !a.done {
		x.b.seen["failed "+x.name()]++
		return x.to("c")
	}
	return x.come(rest)
}

// down is what comes behind a lane that is done.
func (x *teller) down() core.State {
	l := x.now()
	if l.found {
		x.b.seen["found "+strconv.Itoa(x.level)]++
	}
	if x.level == 0 {
		return core.Done
	}
	if l.at.Place.Kind == 4 {
		x.b.seen["down a root"]++
		return x.lane(x.level-1, ref(root(x.level-1)))
	}
	x.b.seen["down a slot"]++
	return x.lane(x.level-1, next(soul.Who{Slot: l.at.Place.Slot, Id: l.at.Id}, x.level-1))
}

// load is what was loaded there.
func (x *teller) load(a access, at world.At) world.Val {
	if a.kind != "load" || a.at != at {
		x.b.t.Fatal(x.b.kind, x.b.conf, x.name(), "made", a, "not a load of", at)
	}
	if a.got.Stale {
		x.b.seen["stale "+x.row]++
	}
	return a.got
}
