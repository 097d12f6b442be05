package spec_test

import (
	"math"
	"slices"
	"testing"

	"revenant/api"
	"revenant/spec"
)

// The example: of the empty state a Put of 1 with 5, and an Add of 1 with 6: false; false and 5.
func TestExample(t *testing.T) {
	s, a, err := spec.State{}.Do(api.Op{Kind: api.Put, Key: 1, Val: 5})
	if a != (api.Answer{}) || err != api.OK || s != stateOf(t, spec.Pair{Key: 1, Val: 5}) {
		t.Error("Put", s.List(), a, err)
	}
	then, a, err := s.Do(api.Op{Kind: api.Add, Key: 1, Val: 6})
	if a != (api.Answer{Val: 5}) || err != api.OK || then != s {
		t.Error("Add", then.List(), a, err)
	}
}

// P21.2: each op of a key that is there, and of one that isn't, as the table says it, written out by hand.
func TestTable(t *testing.T) {
	with := func(val uint64) []spec.Pair { return []spec.Pair{{Key: 3, Val: 30}, {Key: 5, Val: val}, {Key: 8}} }
	without := []spec.Pair{{Key: 3, Val: 30}, {Key: 8}}
	for _, c := range []struct {
		kind int
		of   []spec.Pair
		want api.Answer
		then []spec.Pair
	}{
		{kind: api.Insert, of: with(50), then: with(50)},
		{kind: api.Insert, of: without, want: api.Answer{Done: true}, then: with(0)},
		{kind: api.Delete, of: with(50), want: api.Answer{Done: true}, then: without},
		{kind: api.Delete, of: without, then: without},
		{kind: api.Has, of: with(50), want: api.Answer{Done: true}, then: with(50)},
		{kind: api.Has, of: without, then: without},
		{kind: api.Put, of: with(50), want: api.Answer{Done: true, Val: 50}, then: with(77)},
		{kind: api.Put, of: without, then: with(77)},
		{kind: api.Add, of: with(50), want: api.Answer{Val: 50}, then: with(50)},
		{kind: api.Add, of: without, want: api.Answer{Done: true}, then: with(77)},
		{kind: api.Remove, of: with(50), want: api.Answer{Done: true, Val: 50}, then: without},
		{kind: api.Remove, of: without, then: without},
		{kind: api.Get, of: with(50), want: api.Answer{Done: true, Val: 50}, then: with(50)},
		{kind: api.Get, of: without, then: without},
		{kind: api.Give, of: with(50), want: api.Answer{Done: true}, then: with(50)},
		{kind: api.Give, of: without, want: api.Answer{Done: true}, then: without},
	} {
		for _, level := range []int{0, 1, 16, -1, math.MaxInt, math.MinInt} {
			s, a, err := stateOf(t, c.of...).Do(api.Op{Kind: c.kind, Key: 5, Val: 77, Level: level})
			if a != c.want || err != api.OK || !slices.Equal(s.List(), c.then) || s != stateOf(t, c.then...) {
				t.Error(c.kind, c.of, level, a, err, s.List())
			}
		}
	}
}

// P21.2: a kind that isn't in the table is ErrKind, beside the zero state and answer, of any state, of a full one too.
func TestKinds(t *testing.T) {
	for n := range 17 {
		s, m := stateOf(t, wide()[:n]...), modelOf(wide()[:n]...)
		for _, kind := range noKinds {
			for _, key := range ends {
				o := api.Op{Kind: kind, Key: key, Val: key, Level: 1}
				if then, a, err := s.Do(o); then != (spec.State{}) || a != (api.Answer{}) || err != api.ErrKind {
					t.Fatal(n, o, then.List(), a, err)
				}
				checkDo(t, s, m, o)
			}
		}
	}
}

// P21.2: each kind, of all keys and values at the ends, of states of any size.
func TestAll(t *testing.T) {
	for n := range 17 {
		for _, list := range [][]spec.Pair{wide()[:n], wide()[16-n:], row(0, n), row(math.MaxUint64-20, n)} {
			s, m := stateOf(t, list...), modelOf(list...)
			for _, kind := range kinds {
				for _, key := range ends {
					for _, val := range []uint64{0, 1, 1 << 63, math.MaxUint64} {
						then, next := checkDo(t, s, m, api.Op{Kind: kind, Key: key, Val: val})
						check(t, then, next)
					}
				}
			}
		}
	}
}

// P21.2: at 15 pairs an Insert, a Put and an Add of a key that isn't there come in; at 16 they are ErrFull, beside the zero state and answer; all else goes on.
func TestFull(t *testing.T) {
	s := stateOf(t, row(10, 15)...)
	for _, key := range []uint64{0, 9, 25, math.MaxUint64} {
		for _, kind := range []int{api.Insert, api.Put, api.Add} {
			full, a, err := s.Do(api.Op{Kind: kind, Key: key, Val: 6})
			if a != (api.Answer{Done: kind != api.Put}) || err != api.OK || full.Len() != 16 {
				t.Fatal(key, kind, a, err, full.List())
			}
			for _, again := range kinds {
				brings := again == api.Insert || again == api.Put || again == api.Add
				then, a, err := full.Do(api.Op{Kind: again, Key: 70, Val: 6})
				if brings && (then != (spec.State{}) || a != (api.Answer{}) || err != api.ErrFull) {
					t.Error("full", again, then.List(), a, err)
				}
				if !brings && (then != full || a != (api.Answer{Done: again == api.Give}) || err != api.OK) {
					t.Error("full", again, then.List(), a, err)
				}
				checkDo(t, full, modelOf(full.List()...), api.Op{Kind: again, Key: key, Val: 8})
				checkDo(t, full, modelOf(full.List()...), api.Op{Kind: again, Key: 12, Val: 8})
			}
		}
	}
}

// P21.1, P21.2: rows of ops of every kind, beside a map: behind each its state, its answer and its error; what a row came to before is one state whenever it is come to again.
func TestRows(t *testing.T) {
	kept := map[api.Errno]int{}
	for seed := range 200 {
		x := numbers(seed)
		s, m := spec.State{}, model{}
		keys := 3 + x.below(24)
		for range 300 {
			o := api.Op{Kind: one(&x, kinds), Key: uint64(x.below(keys)), Val: uint64(x.below(4)), Level: x.below(18)}
			if seed%3 == 0 {
				o.Key, o.Val = one(&x, ends)+o.Key%3, one(&x, ends)
			}
			if x.below(4) == 0 {
				o.Kind = api.Put
			}
			if x.below(50) == 0 {
				o.Kind = one(&x, noKinds)
			}
			_, _, err := s.Do(o)
			kept[err]++
			then, next := checkDo(t, s, m, o)
			if err != api.OK {
				continue
			}
			s, m = then, next
			check(t, s, m)
		}
	}
	if kept[api.OK] == 0 || kept[api.ErrFull] == 0 || kept[api.ErrKind] == 0 {
		t.Error("not all was come to", kept)
	}
}

// A set's values are all 0: whatever values its ops are asked with.
func TestSet(t *testing.T) {
	x := numbers(5)
	s, set := spec.State{}, map[uint64]int{}
	for range 3000 {
		o := api.Op{Kind: one(&x, kinds[:3]), Key: uint64(x.below(16)), Val: one(&x, ends)}
		then, a, err := s.Do(o)
		_, there := set[o.Key]
		if a != (api.Answer{Done: there != (o.Kind == api.Insert)}) || err != api.OK {
			t.Fatal(o, a, err)
		}
		switch o.Kind {
		case api.Insert:
			set[o.Key] = 0
		case api.Delete:
			delete(set, o.Key)
		}
		s = then
		if s.Len() != len(set) {
			t.Fatal(o, s.List(), set)
		}
		for _, p := range s.List() {
			if _, is := set[p.Key]; !is || p.Val != 0 {
				t.Fatal(o, s.List(), set)
			}
		}
	}
}

// P21.4: two ops of unlike keys, in either order: the same answers, and the same state then, where neither is refused.
func TestEitherOrder(t *testing.T) {
	done := 0
	for _, n := range []int{0, 1, 2, 7, 13, 14, 15, 16} {
		s := stateOf(t, wide()[16-n:]...)
		for _, one := range unlike {
			for _, other := range unlike {
				if one.Key == other.Key {
					continue
				}
				then, a, b, ok := behind(s, one, other)
				again, c, d, is := behind(s, other, one)
				if !ok || !is {
					if n < 15 {
						t.Fatal("refused", s.List(), one, other)
					}
					continue
				}
				done++
				if then != again || a != d || b != c {
					t.Fatal(s.List(), one, other, then.List(), a, b, again.List(), c, d)
				}
			}
		}
	}
	if done < 100000 {
		t.Error("few", done)
	}
}

// unlike are ops of every kind and of some keys, there or not, with some values.
var unlike = func() []api.Op {
	var list []api.Op
	for _, kind := range kinds {
		for _, key := range []uint64{0, 1, 2, 3, 1 << 40, 1 << 63, math.MaxUint64 - 1, math.MaxUint64} {
			for _, val := range []uint64{0, 9, math.MaxUint64} {
				list = append(list, api.Op{Kind: kind, Key: key, Val: val})
			}
		}
	}
	return list
}()

// behind is one op behind another; false, if one is refused.
func behind(s spec.State, one, other api.Op) (spec.State, api.Answer, api.Answer, bool) {
	s, a, err := s.Do(one)
	if err != api.OK {
		return s, a, a, false
	}
	s, b, err := s.Do(other)
	return s, a, b, err == api.OK
}

// P21.4: rows of ops that are mixed so that those of one key stay in their order: each is answered the same, and the state then is the same.
func TestMixed(t *testing.T) {
	for seed := range 300 {
		x := numbers(seed)
		var ops []api.Op
		for range 60 {
			ops = append(ops, api.Op{Kind: one(&x, kinds), Key: uint64(x.below(16)), Val: uint64(x.below(5))})
		}
		want, answers := played(t, ops)
		for range 200 {
			i := x.below(len(ops) - 1)
			if ops[i].Key != ops[i+1].Key {
				ops[i], ops[i+1] = ops[i+1], ops[i]
				answers[i], answers[i+1] = answers[i+1], answers[i]
			}
		}
		s, got := played(t, ops)
		if s != want || !slices.Equal(got, answers) {
			t.Fatal(seed, s.List(), want.List(), got, answers)
		}
	}
}

// played is the state behind a row of ops, and what each is answered.
func played(t *testing.T, ops []api.Op) (spec.State, []api.Answer) {
	t.Helper()
	s, answers := spec.State{}, []api.Answer{}
	for _, o := range ops {
		then, a, err := s.Do(o)
		if err != api.OK {
			t.Fatal(o, err)
		}
		s, answers = then, append(answers, a)
	}
	return s, answers
}
