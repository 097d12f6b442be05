package spec_test

import (
	"math"
	"testing"

	"revenant/api"
	"revenant/spec"
)

// errs are errors of an answer: each that there is, and numbers that are none; some are one in their low bits.
var errs = []api.Errno{0, 1, 2, 3, 4, 5, 6, 7, 8, 9, 10, 11, -1, -6, -7, 256, 262, 263, 1 << 32, 1<<32 + 6, 1<<32 + 7, math.MaxInt, math.MinInt, math.MinInt + 6, math.MinInt + 7}

// answers are answers of any error, done or not, with any of some values.
func answers(vals ...uint64) []api.Answer {
	var list []api.Answer
	for _, err := range errs {
		for _, done := range []bool{false, true} {
			for _, val := range vals {
				list = append(list, api.Answer{Err: err, Done: done, Val: val})
			}
		}
	}
	return list
}

// P21.3: a Give may be answered true and any value: the same state; and nothing else without an error.
func TestMayGive(t *testing.T) {
	for n := range 17 {
		s := stateOf(t, wide()[:n]...)
		for _, key := range ends {
			o := api.Op{Kind: api.Give, Key: key, Val: 3, Level: 1}
			for _, val := range ends {
				if then, may := s.May(o, api.Answer{Done: true, Val: val}); then != s || !may {
					t.Fatal(n, o, val, then.List(), may)
				}
				if then, may := s.May(o, api.Answer{Val: val}); then != (spec.State{}) || may {
					t.Fatal("not Done", n, o, val, then.List(), may)
				}
			}
		}
	}
}

// P21.3: ErrFull alone is an answer of an Insert, a Put and an Add, ErrEpoch alone of these and a Give: the same state, whether the key is there or not, and room or not.
func TestMayRefused(t *testing.T) {
	for _, n := range []int{0, 1, 8, 15, 16} {
		s := stateOf(t, wide()[:n]...)
		for _, kind := range append(kinds, noKinds...) {
			brings := kind == api.Insert || kind == api.Put || kind == api.Add
			for _, key := range ends {
				o := api.Op{Kind: kind, Key: key, Val: 4, Level: 2}
				refused(t, s, o, api.ErrFull, brings)
				refused(t, s, o, api.ErrEpoch, brings || kind == api.Give)
			}
		}
	}
}

// refused holds whether an error alone is an answer of an op; with a Done or a value beside it it isn't, and no other error is.
func refused(t *testing.T, s spec.State, o api.Op, err api.Errno, want bool) {
	t.Helper()
	then, may := s.May(o, api.Answer{Err: err})
	if may != want || may && then != s || !may && then != (spec.State{}) {
		t.Fatal(s.List(), o, err, then.List(), may)
	}
	for _, a := range []api.Answer{{Err: err, Done: true}, {Err: err, Val: 1}, {Err: err, Val: math.MaxUint64}, {Err: err, Val: 1 << 63}, {Err: err, Done: true, Val: 4}} {
		if then, may := s.May(o, a); may || then != (spec.State{}) {
			t.Fatal(s.List(), o, a, then.List(), may)
		}
	}
}

// P21.3: of each kind, of a key that is there and of one that isn't, what Do says is the one answer without an error (but of a Give): the state then; any other one is the zero state and false.
func TestMayDo(t *testing.T) {
	for _, list := range [][]spec.Pair{nil, {{Key: 5}}, {{Key: 5, Val: 50}}, {{Key: 4, Val: 50}, {Key: 5, Val: 7}, {Key: 6, Val: 9}}, row(0, 15), row(1, 16), wide()} {
		s := stateOf(t, list...)
		for _, kind := range kinds[:7] {
			for _, key := range []uint64{0, 5, 6, math.MaxUint64} {
				o := api.Op{Kind: kind, Key: key, Val: 7}
				then, says, err := s.Do(o)
				had, _ := s.Get(key)
				mays := 0
				for _, a := range answersOK(0, 1, 7, 9, 50, 100, 105, had, had+1, math.MaxUint64) {
					got, may := s.May(o, a)
					switch {
					case may && (err != api.OK || a != says || got != then):
						t.Fatal(list, o, a, got.List())
					case may:
						mays++
					case got != (spec.State{}):
						t.Fatal("beside false", list, o, a, got.List())
					}
				}
				if (mays != 0) != (err == api.OK) {
					t.Fatal(list, o, says, err, mays)
				}
			}
		}
	}
}

// answersOK are answers without an error.
func answersOK(vals ...uint64) []api.Answer {
	var list []api.Answer
	for _, val := range vals {
		list = append(list, api.Answer{Val: val}, api.Answer{Done: true, Val: val})
	}
	return list
}

// P21.3: an op that Do refuses has no answer without an error: the zero answer beside Do's error is none.
func TestMayNot(t *testing.T) {
	full := stateOf(t, wide()...)
	for _, kind := range append([]int{api.Insert, api.Put, api.Add}, noKinds...) {
		for _, key := range []uint64{3, 1 << 41, math.MaxUint64 - 2} {
			o := api.Op{Kind: kind, Key: key, Val: 2}
			if _, _, err := full.Do(o); err == api.OK {
				t.Fatal("not refused", o)
			}
			for _, a := range answersOK(0, 1, 2, math.MaxUint64) {
				if then, may := full.May(o, a); may || then != (spec.State{}) {
					t.Error(o, a, then.List(), may)
				}
			}
		}
	}
	for n := range 17 {
		s := stateOf(t, wide()[:n]...)
		for _, kind := range noKinds {
			for _, a := range answers(0, 1) {
				if then, may := s.May(api.Op{Kind: kind, Key: 5}, a); may || then != (spec.State{}) {
					t.Fatal(n, kind, a, then.List(), may)
				}
			}
		}
	}
}

// P21.3: every kind with every answer, held against the words of the document, of states of any size.
func TestMayAll(t *testing.T) {
	mays := map[int]int{}
	for n := range 17 {
		for _, list := range [][]spec.Pair{wide()[:n], row(0, n)} {
			s, m := stateOf(t, list...), modelOf(list...)
			for _, kind := range append(kinds, noKinds...) {
				for _, key := range []uint64{0, 2, 3, 1 << 40, math.MaxUint64} {
					had, _ := s.Get(key)
					for _, a := range answers(0, had, had+1, 6) {
						if checkMay(t, s, m, api.Op{Kind: kind, Key: key, Val: 6, Level: 1}, a) {
							mays[kind]++
						}
					}
				}
			}
		}
	}
	for _, kind := range kinds {
		if mays[kind] == 0 {
			t.Error("no answer of", kind)
		}
	}
}

// P21.3: rows of ops with any answers: where one may be so, the row goes on from the state then.
func TestMayRows(t *testing.T) {
	for seed := range 100 {
		x := numbers(seed)
		s, m := spec.State{}, model{}
		for range 200 {
			o := api.Op{Kind: one(&x, kinds), Key: uint64(x.below(20)), Val: uint64(x.below(3))}
			a := api.Answer{Err: one(&x, []api.Errno{0, 0, 0, 0, 6, 7, 8}), Done: x.below(2) == 0, Val: uint64(x.below(3))}
			if x.below(2) == 0 {
				_, a, _ = m.do(o)
			}
			if !checkMay(t, s, m, o, a) {
				continue
			}
			s, _ = s.May(o, a)
			m, _ = m.may(o, a)
			check(t, s, m)
		}
	}
}
