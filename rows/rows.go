// Package rows is how a machine goes on: row by row, as the chapters' tables tell. It is no layer: layers are made of it.
package rows

import (
	"revenant/core"
	"revenant/world"
)

// Row is one row of a table: an access, and how the machine stands behind it.
type Row func(w world.World) core.State

// Rows are those of one machine: which one is next, if it hasn't ended.
type Rows struct {
	next  Row
	state core.State // how the machine ended; Busy: it goes on
}

// State: how the machine ended; Busy ahead of that.
func (r *Rows) State() core.State { return r.state }

// Step makes the next row; how the machine stands behind it.
func (r *Rows) Step(w world.World) (state core.State) {
	if r.state != core.Busy {
		return r.state
	}
	// A world may be nil, or be of another package and nil inside, which can't be told from here, and panic.
	defer func() { _ = recover() }()
	return r.next(w)
}

// GoOn: that row is the next one.
func (r *Rows) GoOn(next Row) core.State {
	r.next = next
	return core.Busy
}

// Play: the steps of another machine are the next rows; then: what comes of the state in which it ends.
func (r *Rows) Play(step Row, then func(core.State) core.State) core.State {
	return r.GoOn(func(w world.World) core.State {
		state := step(w)
		if state == core.Busy {
			return core.Busy
		}
		return then(state)
	})
}

// End: the machine has ended, and makes no access any more.
func (r *Rows) End(state core.State) core.State {
	r.state = state
	return state
}
