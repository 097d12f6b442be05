package spec_test

import (
	"math"
	"slices"
	"testing"

	"revenant/api"
	"revenant/spec"
)

// P21.1: the zero State is the empty one, and New of no pairs.
func TestZero(t *testing.T) {
	var s spec.State
	check(t, s, model{})
	for _, list := range [][]spec.Pair{nil, {}, row(1, 20)[:0]} {
		if other, err := spec.New(list...); other != s || err != api.OK {
			t.Error(list, other.List(), err)
		}
	}
	for _, key := range ends {
		if s.Without(key) != s {
			t.Error("Without", key)
		}
		for _, val := range ends {
			p := spec.Pair{Key: key, Val: val}
			with, err := s.With(p)
			if err != api.OK || with != stateOf(t, p) || with == s || with.Without(key) != s {
				t.Error("With", p, with.List(), err)
			}
			check(t, with, modelOf(p))
		}
	}
	check(t, s, model{})
}

// P21.1: New of up to 16 pairs, in any order: these, by rising keys.
func TestNew(t *testing.T) {
	x := numbers(1)
	if len(wide()) != spec.Most || spec.Most != 16 {
		t.Fatal(len(wide()), spec.Most)
	}
	for n := range 17 {
		for _, list := range [][]spec.Pair{row(0, n), row(math.MaxUint64-uint64(n)+1, n), row(1<<63-8, n), wide()[:n], wide()[16-n:]} {
			want := stateOf(t, list...)
			check(t, want, modelOf(list...))
			back := slices.Clone(list)
			slices.Reverse(back)
			for _, other := range [][]spec.Pair{back, mixed(&x, list), mixed(&x, list), mixed(&x, list)} {
				if s, err := spec.New(other...); s != want || err != api.OK {
					t.Fatal(other, s.List(), err)
				}
			}
		}
	}
}

// P21.1: New of more than 16 pairs is ErrFull, beside the zero State, wherever they stand, however many.
func TestNewFull(t *testing.T) {
	x := numbers(2)
	for _, n := range []int{17, 18, 31, 32, 33, 100, 256, 272, 1 << 16, 1<<16 + 1} {
		for _, list := range [][]spec.Pair{row(0, n), row(math.MaxUint64-uint64(n)+1, n), mixed(&x, row(9, n))} {
			if s, err := spec.New(list...); s != (spec.State{}) || err != api.ErrFull {
				t.Error(n, s.List(), err)
			}
		}
	}
}

// P21.1: New of a key that is told twice is ErrArg, beside the zero State, with another value or the same, wherever the two stand.
func TestNewTwice(t *testing.T) {
	for n := 1; n <= 15; n++ {
		for _, list := range [][]spec.Pair{row(0, n), wide()[:n], wide()[16-n:]} {
			for i := range n {
				for at := range n + 1 {
					twice(t, slices.Insert(slices.Clone(list), at, list[i]))
					twice(t, slices.Insert(slices.Clone(list), at, spec.Pair{Key: list[i].Key, Val: list[i].Val + 1}))
				}
			}
		}
	}
	twice(t, []spec.Pair{{}, {}})
	twice(t, []spec.Pair{{}, {Val: 1}})
	twice(t, []spec.Pair{{Key: math.MaxUint64}, {Key: 3}, {Key: math.MaxUint64}})
	twice(t, []spec.Pair{{Key: 3}, {Key: 3}, {Key: 3}})
}

// twice holds that a key of a row is told twice.
func twice(t *testing.T, list []spec.Pair) {
	t.Helper()
	if s, err := spec.New(list...); s != (spec.State{}) || err != api.ErrArg {
		t.Fatal(list, s.List(), err)
	}
}

// P21.1: a key that is told twice comes ahead of too many, though the two stand behind the first 16, or all others are unlike.
func TestNewBoth(t *testing.T) {
	for _, n := range []int{16, 17, 18, 33, 100, 1 << 12} {
		list := row(5, n)
		for _, i := range []int{0, 1, 7, 14, 15, n / 2, n - 2, n - 1} {
			for _, at := range []int{0, 1, 8, 15, 16, n / 2, n - 1, n} {
				twice(t, slices.Insert(slices.Clone(list), at, list[i]))
			}
		}
		twice(t, make([]spec.Pair, n))
	}
	twice(t, append(wide(), wide()...))
}

// P21.1: a key with the value 0 is there, and so is the key 0; a key that isn't there is 0 and false.
func TestGet(t *testing.T) {
	s := stateOf(t, spec.Pair{Key: 0, Val: 4}, spec.Pair{Key: 3}, spec.Pair{Key: math.MaxUint64, Val: math.MaxUint64})
	for _, want := range []struct {
		key, val uint64
		there    bool
	}{{0, 4, true}, {3, 0, true}, {math.MaxUint64, math.MaxUint64, true}, {1, 0, false}, {2, 0, false}, {4, 0, false}, {1 << 63, 0, false}, {math.MaxUint64 - 1, 0, false}} {
		if val, there := s.Get(want.key); val != want.val || there != want.there {
			t.Error(want, val, there)
		}
	}
	if s := stateOf(t, spec.Pair{}); s == (spec.State{}) || s.Len() != 1 || !slices.Equal(s.List(), []spec.Pair{{}}) {
		t.Error("a key of 0 with 0", s.Len(), s.List())
	}
}

// P21.1: With of a key that is there has another value in its place, at 16 pairs too; of one that isn't one more, wherever it comes to stand.
func TestWith(t *testing.T) {
	for n := range 17 {
		for skip := range 17 - n {
			list := wide()[skip : skip+n]
			s, m := stateOf(t, list...), modelOf(list...)
			for _, p := range wide() {
				for _, val := range []uint64{0, p.Val, p.Val + 1, math.MaxUint64} {
					checkWith(t, s, m, spec.Pair{Key: p.Key, Val: val})
					checkWith(t, s, m, spec.Pair{Key: p.Key ^ 1<<50, Val: val})
				}
			}
		}
	}
}

// checkWith holds With of a pair.
func checkWith(t *testing.T, s spec.State, m model, p spec.Pair) {
	t.Helper()
	with, err := s.With(p)
	next := modelOf(append(m.pairs(), p)...)
	want := api.OK
	if len(next) > 16 {
		next, want = model{}, api.ErrFull
	}
	if err != want || with != stateOf(t, next.pairs()...) {
		t.Fatal(m.pairs(), p, with.List(), err, want)
	}
	if s != stateOf(t, m.pairs()...) {
		t.Fatal("changed by With", p, s.List())
	}
}

// P21.1: the sixteenth one comes in, the seventeenth one doesn't: ErrFull beside the zero State.
func TestWithFull(t *testing.T) {
	s := stateOf(t, row(10, 15)...)
	for _, key := range []uint64{0, 9, 25, math.MaxUint64} {
		full, err := s.With(spec.Pair{Key: key, Val: 1})
		if err != api.OK || full.Len() != 16 {
			t.Fatal(key, full.Len(), err)
		}
		for _, other := range []uint64{1, 8, 26, math.MaxUint64 - 1} {
			if got, err := full.With(spec.Pair{Key: other, Val: 1}); got != (spec.State{}) || err != api.ErrFull {
				t.Error(other, got.List(), err)
			}
		}
		for _, p := range row(10, 15) {
			if got, err := full.With(spec.Pair{Key: p.Key, Val: 7}); err != api.OK || got.Len() != 16 {
				t.Error(p, got.List(), err)
			}
		}
	}
}

// P21.1: Without is the state without that key's pair; the same, if it isn't there.
func TestWithout(t *testing.T) {
	for n := range 17 {
		for skip := range 17 - n {
			list := wide()[skip : skip+n]
			s, m := stateOf(t, list...), modelOf(list...)
			for _, p := range wide() {
				for _, key := range []uint64{p.Key, p.Key ^ 1<<50, p.Key + 1, p.Key - 1} {
					next := modelOf(list...)
					delete(next, key)
					got := s.Without(key)
					if got != stateOf(t, next.pairs()...) {
						t.Fatal(list, key, got.List())
					}
					check(t, got, next)
				}
			}
			check(t, s, m)
		}
	}
}

// P21.1: the same pairs, come to in any order, with keys put, changed and taken away in between, are one state, and one key of a map.
func TestSame(t *testing.T) {
	x := numbers(3)
	for n := range 17 {
		for _, list := range [][]spec.Pair{row(0, n), row(40, n), wide()[:n], wide()[16-n:]} {
			want := stateOf(t, list...)
			seen := map[spec.State]int{want: 1}
			for range 40 {
				s := around(t, &x, list)
				if s != want {
					t.Fatal(list, s.List())
				}
				seen[s]++
			}
			if len(seen) != 1 || seen[want] != 41 {
				t.Fatal(list, len(seen), seen[want])
			}
		}
	}
}

// around comes to the state of pairs over others.
func around(t *testing.T, x *numbers, list []spec.Pair) spec.State {
	t.Helper()
	s := spec.State{}
	for range x.below(17) {
		s = with(t, s, spec.Pair{Key: one(x, ends) + uint64(x.below(3)), Val: uint64(x.below(9))})
	}
	for _, p := range mixed(x, s.List()) {
		if x.below(2) == 0 {
			s = s.Without(p.Key)
		}
	}
	wanted := modelOf(list...)
	for _, p := range mixed(x, s.List()) {
		if _, is := wanted[p.Key]; !is {
			s = s.Without(p.Key)
		}
	}
	for _, p := range mixed(x, list) {
		s = with(t, s, spec.Pair{Key: p.Key, Val: p.Val + uint64(x.below(2))})
	}
	for _, p := range mixed(x, list) {
		s = with(t, s.Without(p.Key), p)
	}
	return s
}

// with is the state with a pair, for which there is room.
func with(t *testing.T, s spec.State, p spec.Pair) spec.State {
	t.Helper()
	s, err := s.With(p)
	if err != api.OK {
		t.Fatal(p, err)
	}
	return s
}

// P21.1: pairs unlike in a key, a value, or how many, are unlike states, and keys of a map beside each other.
func TestNotSame(t *testing.T) {
	rows := [][]spec.Pair{nil, {{}}}
	for n := 1; n < 17; n++ {
		rows = append(rows, row(0, n), row(1, n), row(1<<63, n))
	}
	for i, p := range wide() {
		rows = append(rows, []spec.Pair{p}, slices.Delete(wide(), i, i+1))
		for _, change := range []uint64{1, 1 << 32, 1 << 62, math.MaxUint64} {
			other := wide()
			other[i].Val += change
			rows = append(rows, other)
			other = wide()
			other[i].Key ^= 1<<45 ^ change<<1
			rows = append(rows, rising(other))
		}
	}
	seen := map[spec.State]int{}
	var states []spec.State
	for i, list := range rows {
		s := stateOf(t, list...)
		for k, other := range states {
			if (s == other) != slices.Equal(rising(list), rising(rows[k])) {
				t.Error(list, rows[k], s == other)
			}
		}
		states = append(states, s)
		if k, is := seen[s]; is && !slices.Equal(rising(list), rising(rows[k])) {
			t.Error("one key of a map", list, rows[k])
		}
		seen[s] = i
	}
	if len(seen) < 100 {
		t.Error("few states", len(seen))
	}
}

// Rule 3: a row that was handed to New is not kept and not changed, its spare room neither.
func TestListOfNew(t *testing.T) {
	x := numbers(4)
	for n := range 17 {
		for spare := range 4 {
			list := mixed(&x, wide())[:n]
			all := append(slices.Clone(list), row(900, spare)...)
			was := slices.Clone(all)
			s := stateOf(t, all[:n]...)
			if !slices.Equal(all, was) {
				t.Fatal("changed", all, was)
			}
			clear(all)
			check(t, s, modelOf(list...))
			twiceOf := append(slices.Clone(list), list...)
			was = slices.Clone(twiceOf)
			spec.New(twiceOf...)
			if !slices.Equal(twiceOf, was) {
				t.Fatal("changed beside an error", twiceOf, was)
			}
		}
	}
	list := mixed(&x, row(1, 60))
	was := slices.Clone(list)
	if spec.New(list...); !slices.Equal(list, was) {
		t.Error("changed beside ErrFull", list)
	}
}

// Rule 3: what List tells is new memory: no state is changed by it, nor it by a state, and no two share any.
func TestListTold(t *testing.T) {
	for n := range 17 {
		list := wide()[:n]
		s := stateOf(t, list...)
		copied := s
		a, b, c := s.List(), s.List(), copied.List()
		_ = append(a, row(77, 20)...)
		clear(a)
		if !slices.Equal(b, list) || !slices.Equal(c, list) {
			t.Fatal("two lists share", b, c)
		}
		check(t, s, modelOf(list...))
		check(t, copied, modelOf(list...))
		s = s.Without(0)
		if !slices.Equal(b, list) || !slices.Equal(c, list) {
			t.Fatal("changed by a state", b, c)
		}
	}
}

// P21.1: a state is a value: one that was copied stays as it was, whatever becomes of the other one.
func TestCopied(t *testing.T) {
	for n := range 17 {
		list := wide()[:n]
		s := stateOf(t, list...)
		copied, held, kept := s, [2]spec.State{s, s}, map[spec.State]int{s: 5}
		for _, p := range wide() {
			if next, err := s.With(spec.Pair{Key: p.Key, Val: p.Val + 1}); err == api.OK {
				s = next
			}
			s = s.Without(p.Key + 2)
			if next, _, err := s.Do(api.Op{Kind: api.Put, Key: p.Key + 3, Val: 9}); err == api.OK {
				s = next
			}
		}
		for _, same := range []spec.State{copied, held[0], held[1]} {
			check(t, same, modelOf(list...))
			if kept[same] != 5 {
				t.Fatal("no key of the map any more", list)
			}
		}
	}
}
