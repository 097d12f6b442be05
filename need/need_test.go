package need_test

import (
	"slices"
	"testing"

	"revenant/api"
	"revenant/core"
	"revenant/need"
	"revenant/queue"
	"revenant/rows"
	"revenant/soul"
	"revenant/world"
)

// asker is an op that needs a slot, and says what came of that.
type asker struct {
	core *core.Core
	rows rows.Rows
	came []string
}

// ask is one of a thread of a list of 3 slots, in a world whose epoch is 4, as is the last one.
func ask(t *testing.T, entries ...queue.Entry) (*asker, *world.Plain) {
	w := world.New()
	w.Store(world.At{Place: api.Place{Kind: 1}}, world.Val{Word: 4})
	a := &asker{core: core.New(api.Config{Kind: api.List, Slots: 3, Height: 1, Limit: 4})}
	a.core.Check(w)
	a.core.Queue().Push(entries...)
	return a, w
}

// begin: it needs a slot.
func (a *asker) begin() core.State {
	return need.Op{Thread: a.core, Asked: api.Op{Kind: api.Insert, Key: 5}, Rows: &a.rows, Find: a.find, Over: a.over}.Slot()
}

func (a *asker) find() core.State {
	a.came = append(a.came, "find")
	return a.rows.GoOn(func(world.World) core.State { return a.rows.End(core.Again) })
}
func (a *asker) over(with api.Answer) core.State {
	a.came = append(a.came, []string{"", "full", "late"}[slices.Index([]api.Answer{{}, {Err: api.ErrFull}, {Err: api.ErrEpoch}}, with)])
	return a.rows.End(core.Done)
}

// steps holds how it stands behind each of its steps, and what came of the last one.
func (a *asker) steps(t *testing.T, w world.World, came string, want ...core.State) {
	t.Helper()
	for i, want := range want {
		if len(a.came) != 0 {
			t.Fatal(i, "comes to", a.came)
		}
		if state := a.rows.Step(w); state != want {
			t.Fatal(i, "is", state, "not", want)
		}
	}
	if !slices.Equal(a.came, []string{came}) {
		t.Fatal("comes to", a.came, "not", came)
	}
}

// P16.1: an Alloc that is Done, or Again: a new search, that is part of its last step.
func TestFind(t *testing.T) {
	a, w := ask(t)
	if state := a.begin(); state != core.Busy {
		t.Fatal(state)
	}
	a.steps(t, w, "find", core.Busy, core.Busy, core.Busy, core.Busy)
	if who, holds := a.core.Held(); !holds || who != (soul.Who{Slot: 1}) || w.Peek(api.Place{Kind: 5, Slot: 1, Part: 3}) != 5 {
		t.Error(who, holds)
	}
	if state := a.rows.Step(w); state != core.Again {
		t.Error(state)
	}
	// The slot was retired in the thread's epoch, which isn't the last one.
	a, w = ask(t, queue.Entry{Slot: 2, Retired: 3})
	w.Store(world.At{Place: api.Place{Kind: 1}}, world.Val{Word: 3})
	a.core.Check(w)
	if state := a.begin(); state != core.Busy {
		t.Fatal(state)
	}
	a.steps(t, w, "find", core.Busy)
	if w.Peek(api.Place{Kind: 1}) != 4 {
		t.Error("the epoch didn't go on")
	}
}

// P16.1: an Alloc that is Full, and one that is Late, ahead of its first step too.
func TestRefused(t *testing.T) {
	a, w := ask(t)
	w.Store(world.At{Place: api.Place{Kind: 3}}, world.Val{Word: 3})
	if state := a.begin(); state != core.Busy {
		t.Fatal(state)
	}
	a.steps(t, w, "full", core.Busy, core.Done)
	a, w = ask(t)
	w.Store(world.At{Place: api.Place{Kind: 3}}, world.Val{Word: 3})
	w.Store(world.At{Place: api.Place{Kind: 2}}, world.Val{Word: 2<<40 | 4})
	if state := a.begin(); state != core.Busy {
		t.Fatal(state)
	}
	a.steps(t, w, "late", core.Busy, core.Done)
	a, w = ask(t, queue.Entry{Slot: 2, Retired: 4})
	if state := a.begin(); state != core.Done {
		t.Fatal(state)
	}
	a.steps(t, w, "late")
	if state := a.rows.Step(w); state != core.Done {
		t.Error(state)
	}
	if count := w.Count(); count.Loads != 1 || count.Adds != 0 {
		t.Error(count)
	}
}
