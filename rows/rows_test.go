package rows_test

import (
	"slices"
	"testing"

	"revenant/core"
	"revenant/rows"
	"revenant/world"
)

// teller is a machine that says which of its rows were made, in which worlds.
type teller struct {
	rows rows.Rows
	made []string
	in   []world.World
}

// row is one of its rows, that goes on as then tells.
func (x *teller) row(name string, then func() core.State) rows.Row {
	return func(w world.World) core.State {
		x.made, x.in = append(x.made, name), append(x.in, w)
		return then()
	}
}

// made holds which rows were made.
func made(t *testing.T, x *teller, want ...string) {
	t.Helper()
	if !slices.Equal(x.made, want) {
		t.Fatal("made", x.made, "not", want)
	}
}

// A machine makes one row a step, the one that was told last, in the world of that step; behind its end none, and its state stays.
func TestRows(t *testing.T) {
	for _, end := range []core.State{core.Done, core.Again, core.Full, core.Late} {
		x := &teller{}
		b := x.row("b", func() core.State { return x.rows.End(end) })
		a := x.row("a", func() core.State { return x.rows.GoOn(b) })
		if state := x.rows.GoOn(a); state != core.Busy || x.rows.State() != core.Busy {
			t.Fatal(state)
		}
		made(t, x)
		first, second := world.New(), world.New()
		if state := x.rows.Step(first); state != core.Busy || x.rows.State() != core.Busy {
			t.Fatal(state)
		}
		made(t, x, "a")
		for range 3 {
			if state := x.rows.Step(second); state != end || x.rows.State() != end {
				t.Fatal(state, "not", end)
			}
			made(t, x, "a", "b")
		}
		if x.in[0] != first || x.in[1] != second {
			t.Error("another world")
		}
	}
}

// A row that tells nothing is made again.
func TestAgain(t *testing.T) {
	x := &teller{}
	n := 0
	x.rows.GoOn(x.row("a", func() core.State {
		if n++; n < 3 {
			return core.Busy
		}
		return x.rows.End(core.Done)
	}))
	for i, want := range []core.State{core.Busy, core.Busy, core.Done, core.Done} {
		if state := x.rows.Step(nil); state != want {
			t.Error(i, state)
		}
	}
	made(t, x, "a", "a", "a")
}

// The steps of another machine are rows of this one, and what comes of its end is part of the last one.
func TestPlay(t *testing.T) {
	for _, end := range []core.State{core.Done, core.Again, core.Full, core.Late} {
		x, y := &teller{}, &teller{}
		y.rows.GoOn(y.row("a", func() core.State {
			return y.rows.GoOn(y.row("b", func() core.State { return y.rows.End(end) }))
		}))
		var came []core.State
		x.rows.Play(y.rows.Step, func(state core.State) core.State {
			came = append(came, state)
			return x.rows.GoOn(x.row("c", func() core.State { return x.rows.End(core.Late) }))
		})
		for i, want := range []core.State{core.Busy, core.Busy, core.Late, core.Late} {
			if state := x.rows.Step(nil); state != want {
				t.Error(end, i, state)
			}
			made(t, y, []string{"a", "b"}[:min(i+1, 2)]...)
			made(t, x, []string{"c"}[:min(max(i-1, 0), 1)]...)
		}
		if !slices.Equal(came, []core.State{end}) {
			t.Error(end, came)
		}
	}
}

// A row that panics makes nothing, and may be made again; so do rows that weren't told.
func TestPanic(t *testing.T) {
	var none rows.Rows
	if state := none.Step(nil); state != core.Busy || none.State() != core.Busy {
		t.Error(state)
	}
	x := &teller{}
	x.rows.GoOn(func(w world.World) core.State {
		w.Born(1)
		return x.rows.End(core.Done)
	})
	for range 2 {
		if state := x.rows.Step(nil); state != core.Busy {
			t.Error(state)
		}
	}
	if state := x.rows.Step(world.New()); state != core.Done {
		t.Error(state)
	}
}
