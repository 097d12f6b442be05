package spec_test

import (
	"cmp"
	"maps"
	"math"
	"slices"
	"testing"

	"revenant/api"
	"revenant/spec"
)

// The kinds, as the document's table has them, by their numbers.
var kinds = []int{1, 2, 3, 4, 5, 6, 7, 8}

// noKinds are numbers that are no kind; some are one in their low bits.
var noKinds = []int{-1, 0, 9, 10, -8, 16, 255, 256, 257, 1 << 32, 1<<32 + 1, 1<<63 - 8, math.MaxInt - 1, math.MaxInt, math.MinInt, math.MinInt + 1, math.MinInt + 8}

// ends are words as keys and values: 0 and the highest, and some that are alike in their low or high bits, or as numbers with a sign.
var ends = []uint64{0, 1, 2, 5, 255, 256, 1<<32 - 1, 1 << 32, 1<<32 + 1, 1<<63 - 1, 1 << 63, 1<<63 + 5, math.MaxUint64 - 1, math.MaxUint64}

// numbers are numbers that look like any, always the same.
type numbers uint64

// below is the next one, below n.
func (x *numbers) below(n int) int {
	*x = *x*6364136223846793005 + 1442695040888963407
	return int(*x>>33) % n
}

// one is one of a list.
func one[T any](x *numbers, list []T) T { return list[x.below(len(list))] }

// mixed is a list in any order.
func mixed[T any](x *numbers, list []T) []T {
	list = slices.Clone(list)
	for i := range list {
		k := i + x.below(len(list)-i)
		list[i], list[k] = list[k], list[i]
	}
	return list
}

// row is n pairs of rising keys from a number on, each with another value.
func row(from uint64, n int) []spec.Pair {
	var list []spec.Pair
	for i := range uint64(n) {
		list = append(list, spec.Pair{Key: from + i, Val: 100 + i})
	}
	return list
}

// wide is 16 pairs, the lowest key and the highest among them, by rising keys.
func wide() []spec.Pair {
	var list []spec.Pair
	for i, key := range ends {
		list = append(list, spec.Pair{Key: key, Val: ends[(i*5+3)%len(ends)]})
	}
	list = append(list, spec.Pair{Key: 7, Val: 0}, spec.Pair{Key: 1 << 40, Val: math.MaxUint64})
	return rising(list)
}

// rising is a list by rising keys.
func rising(list []spec.Pair) []spec.Pair {
	return slices.SortedFunc(slices.Values(list), func(a, b spec.Pair) int { return cmp.Compare(a.Key, b.Key) })
}

// stateOf is the state of pairs.
func stateOf(t *testing.T, list ...spec.Pair) spec.State {
	t.Helper()
	s, err := spec.New(list...)
	if err != api.OK {
		t.Fatal("New", list, err)
	}
	return s
}

// model is what the document says of a state: which keys have which value.
type model map[uint64]uint64

// modelOf is the model of pairs.
func modelOf(list ...spec.Pair) model {
	m := model{}
	for _, p := range list {
		m[p.Key] = p.Val
	}
	return m
}

// pairs are a model's, by rising keys.
func (m model) pairs() []spec.Pair {
	var list []spec.Pair
	for key, val := range m {
		list = append(list, spec.Pair{Key: key, Val: val})
	}
	return rising(list)
}

// do is an op at once as the table says it; beside an error all is zero.
func (m model) do(o api.Op) (model, api.Answer, api.Errno) {
	then, a := maps.Clone(m), api.Answer{}
	val, there := m[o.Key]
	switch o.Kind {
	case 1:
		a.Done = !there
		if !there {
			then[o.Key] = 0
		}
	case 2:
		a.Done = there
		delete(then, o.Key)
	case 3:
		a.Done = there
	case 4:
		a.Done, a.Val = there, val
		then[o.Key] = o.Val
	case 5:
		a.Done, a.Val = !there, val
		if !there {
			then[o.Key] = o.Val
		}
	case 6:
		a.Done, a.Val = there, val
		delete(then, o.Key)
	case 7:
		a.Done, a.Val = there, val
	case 8:
		a.Done = true
	default:
		return model{}, api.Answer{}, 8
	}
	if len(then) > 16 {
		return model{}, api.Answer{}, 6
	}
	return then, a, 0
}

// may is whether an op may be answered so, and the model then, as the document says it; empty beside false.
func (m model) may(o api.Op, a api.Answer) (model, bool) {
	brings, gives := o.Kind == 1 || o.Kind == 4 || o.Kind == 5, o.Kind == 8
	switch {
	case a.Err == 0 && gives && a.Done:
		return m, true
	case a.Err == 0:
		if then, says, err := m.do(o); err == 0 && says == a {
			return then, true
		}
	case a.Err == 6 && !a.Done && a.Val == 0 && brings:
		return m, true
	case a.Err == 7 && !a.Done && a.Val == 0 && (brings || gives):
		return m, true
	}
	return model{}, false
}

// check holds all that a state tells against the model, twice, since asking changes nothing.
func check(t *testing.T, s spec.State, m model) {
	t.Helper()
	want := m.pairs()
	for range 2 {
		if s.Len() != len(m) {
			t.Fatal("Len", s.Len(), len(m), want)
		}
		if list := s.List(); !slices.Equal(list, want) {
			t.Fatal("List", list, want)
		}
		for _, p := range want {
			if val, there := s.Get(p.Key); val != p.Val || !there {
				t.Fatal("Get", p, val, there, want)
			}
			checkGet(t, s, m, p.Key-1)
			checkGet(t, s, m, p.Key+1)
		}
		for _, key := range ends {
			checkGet(t, s, m, key)
		}
	}
	if again := stateOf(t, s.List()...); again != s {
		t.Fatal("New of the List is another state", s.List(), again.List())
	}
}

// checkGet holds what Get answers of a key, there or not.
func checkGet(t *testing.T, s spec.State, m model, key uint64) {
	t.Helper()
	want, is := m[key]
	if val, there := s.Get(key); val != want || there != is {
		t.Fatal("Get", key, val, there, want, is)
	}
}

// checkDo holds what Do answers, and the state then; the state that it was asked of stays.
func checkDo(t *testing.T, s spec.State, m model, o api.Op) (spec.State, model) {
	t.Helper()
	then, a, err := s.Do(o)
	next, want, wantErr := m.do(o)
	if a != want || err != wantErr {
		t.Fatal("Do", m.pairs(), o, a, err, want, wantErr)
	}
	if then != stateOf(t, next.pairs()...) {
		t.Fatal("Do", m.pairs(), o, "leaves", then.List(), next.pairs())
	}
	if s != stateOf(t, m.pairs()...) {
		t.Fatal("Do", m.pairs(), o, "changed what it was asked of", s.List())
	}
	return then, next
}

// checkMay holds what May answers, and the state then; the state that it was asked of stays.
func checkMay(t *testing.T, s spec.State, m model, o api.Op, a api.Answer) bool {
	t.Helper()
	then, may := s.May(o, a)
	next, want := m.may(o, a)
	if may != want || then != stateOf(t, next.pairs()...) {
		t.Fatal("May", m.pairs(), o, a, may, then.List(), want, next.pairs())
	}
	if s != stateOf(t, m.pairs()...) {
		t.Fatal("May", m.pairs(), o, a, "changed what it was asked of", s.List())
	}
	return may
}
