// Package need is how an op comes to a slot, as chapter 16 tells it for all ops that bring something in. It is no layer: layers are made of it.
package need

import (
	"revenant/alloc"
	"revenant/api"
	"revenant/core"
	"revenant/rows"
)

// Op is an op that brings something in, of a thread that holds no slot.
type Op struct {
	Thread *core.Core
	Asked  api.Op
	Rows   *rows.Rows
	Find   func() core.State           // a new search
	Over   func(api.Answer) core.State // it is answered
}

// Slot: an Alloc's steps are the op's next rows; what comes of its end.
func (o Op) Slot() core.State {
	a, state := alloc.New(o.Thread, o.Asked)
	if a == nil {
		return o.came(state)
	}
	return o.Rows.Play(a.Step, o.came)
}

// came: what comes of how an Alloc ended.
func (o Op) came(state core.State) core.State {
	switch state {
	case core.Full:
		return o.Over(api.Answer{Err: api.ErrFull})
	case core.Late:
		return o.Over(api.Answer{Err: api.ErrEpoch})
	}
	// Others went on while it took a slot: where the key is to be may be elsewhere by now.
	return o.Find()
}
