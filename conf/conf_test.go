package conf_test

import (
	"math"
	"math/big"
	"slices"
	"testing"

	"revenant/api"
	"revenant/conf"
)

// The limits, as the document says them.
const (
	maxSlots   = 1<<23 - 1
	maxEpoch   = 1<<40 - 1
	maxBuckets = 64
	maxHeight  = 16
	maxThreads = 64
)

// span is from where to where a number can be.
type span struct{ low, high int }

// has is whether n is one of it.
func (s span) has(n int) bool { return s.low <= n && n <= s.high }

// shape is what a kind's numbers can be.
type shape struct{ slots, buckets, height, limit span }

// shapes are the chapter's kinds: List, Hash and Skip.
var shapes = map[int]shape{
	1: {span{1, maxSlots}, span{0, 0}, span{1, 1}, span{2, maxEpoch}},
	2: {span{1, maxSlots}, span{1, maxBuckets}, span{1, 1}, span{2, maxEpoch}},
	3: {span{1, maxSlots}, span{0, 0}, span{1, maxHeight}, span{2, maxEpoch}},
}

// Numbers at the limits, beyond them and at the ends of int. Many that can't be look right in their low bits.
var (
	kinds     = []int{math.MinInt, math.MinInt + 1, -1 << 32, -3, -2, -1, 0, 1, 2, 3, 4, 5, 6, 7, 8, 9, 255, 256, 257, 65537, 1<<32 + 1, 1<<32 + 2, 1 << 62, math.MaxInt}
	slots     = []int{math.MinInt, math.MinInt + 1, -maxSlots, -1, 0, 1, 2, 8, maxSlots - 1, maxSlots, maxSlots + 1, 1<<32 + 1, math.MaxInt}
	buckets   = []int{math.MinInt, math.MinInt + 1, -64, -1, 0, 1, 2, 3, 63, 64, 65, 257, 1 << 32, 1<<32 + 1, math.MaxInt}
	heights   = []int{math.MinInt, math.MinInt + 1, -16, -1, 0, 1, 2, 3, 15, 16, 17, 257, 1 << 32, 1<<32 + 1, math.MaxInt}
	limits    = []int{math.MinInt, math.MinInt + 2, -2, -1, 0, 1, 2, 3, 1 << 23, 1 << 32, maxEpoch - 1, maxEpoch, maxEpoch + 1, maxEpoch + 3, math.MaxInt}
	noThreads = []int{math.MinInt, math.MinInt + 1, -1 << 32, -64, -2, -1, 0, 65, 66, 127, 128, 257, 1 << 32, 1<<32 + 1, math.MaxInt - 1, math.MaxInt}
)

// judge is what the document says of a structure: its error.
func judge(c api.Config) api.Errno {
	s, is := shapes[c.Kind]
	if !is {
		return api.ErrKind
	}
	if !s.slots.has(c.Slots) || !s.buckets.has(c.Buckets) || !s.height.has(c.Height) || !s.limit.has(c.Limit) {
		return api.ErrRange
	}
	return api.OK
}

// all are structures of all those numbers, whether they can be or not.
func all() []api.Config {
	var list []api.Config
	for _, k := range kinds {
		for _, s := range slots {
			for _, b := range buckets {
				for _, h := range heights {
					for _, l := range limits {
						list = append(list, api.Config{Kind: k, Slots: s, Buckets: b, Height: h, Limit: l})
					}
				}
			}
		}
	}
	return list
}

// good are structures that can be, at all the limits.
func good() []api.Config {
	var list []api.Config
	for _, s := range []int{1, 2, 8, 1 << 16, maxSlots - 1, maxSlots} {
		for _, l := range []int{2, 3, maxEpoch} {
			list = append(list, api.Config{Kind: api.List, Slots: s, Height: 1, Limit: l})
			for b := 1; b <= maxBuckets; b++ {
				list = append(list, api.Config{Kind: api.Hash, Slots: s, Buckets: b, Height: 1, Limit: l})
			}
			for h := 1; h <= maxHeight; h++ {
				list = append(list, api.Config{Kind: api.Skip, Slots: s, Height: h, Limit: l})
			}
		}
	}
	return list
}

// bad are structures that can't be, each of one fault or of several.
func bad() []api.Config {
	list := []api.Config{
		{},
		{Kind: math.MinInt, Slots: math.MinInt, Buckets: math.MinInt, Height: math.MinInt, Limit: math.MinInt},
		{Kind: math.MaxInt, Slots: math.MaxInt, Buckets: math.MaxInt, Height: math.MaxInt, Limit: math.MaxInt},
	}
	for k := range shapes {
		list = append(list, api.Config{Kind: k})
	}
	for _, c := range some() {
		for _, k := range kinds {
			list = append(list, with(c, "Kind", k))
		}
		for _, n := range slots {
			list = append(list, with(c, "Slots", n))
		}
		for _, n := range buckets {
			list = append(list, with(c, "Buckets", n))
		}
		for _, n := range heights {
			list = append(list, with(c, "Height", n))
		}
		for _, n := range limits {
			list = append(list, with(c, "Limit", n))
		}
	}
	var out []api.Config
	for _, c := range list {
		if judge(c) != api.OK {
			out = append(out, c)
		}
	}
	return out
}

// some are a few structures that can be, of each kind.
func some() []api.Config {
	return []api.Config{
		{Kind: api.List, Slots: 8, Height: 1, Limit: 100},
		{Kind: api.List, Slots: maxSlots, Height: 1, Limit: maxEpoch},
		{Kind: api.Hash, Slots: 8, Buckets: 4, Height: 1, Limit: 100},
		{Kind: api.Hash, Slots: 1, Buckets: maxBuckets, Height: 1, Limit: 2},
		{Kind: api.Skip, Slots: 8, Height: 4, Limit: 100},
		{Kind: api.Skip, Slots: 1, Height: 1, Limit: 2},
		{Kind: api.Skip, Slots: maxSlots, Height: maxHeight, Limit: maxEpoch},
	}
}

// with is a structure of which one number is another one.
func with(c api.Config, name string, n int) api.Config {
	switch name {
	case "Kind":
		c.Kind = n
	case "Slots":
		c.Slots = n
	case "Buckets":
		c.Buckets = n
	case "Height":
		c.Height = n
	case "Limit":
		c.Limit = n
	}
	return c
}

// product is the product of numbers that don't go round.
func product(list ...int) *big.Int {
	p := big.NewInt(1)
	for _, n := range list {
		p.Mul(p, big.NewInt(int64(n)))
	}
	return p
}

// The limits and the kinds of the chapter are those of api.
func TestNumbers(t *testing.T) {
	if api.MaxSlots != maxSlots || api.MaxEpoch != maxEpoch || api.MaxBuckets != maxBuckets || api.MaxHeight != maxHeight || api.MaxThreads != maxThreads {
		t.Error(api.MaxSlots, api.MaxEpoch, api.MaxBuckets, api.MaxHeight, api.MaxThreads)
	}
	for i, k := range []int{api.List, api.Hash, api.Skip} {
		if k != i+1 {
			t.Error(i, k)
		}
	}
	for i, k := range []int{api.Insert, api.Delete, api.Has, api.Put, api.Add, api.Remove, api.Get, api.Give} {
		if k != i+1 {
			t.Error(i, k)
		}
	}
}

// P3.1: Check at each limit and one beyond it, of each kind.
func TestCheckEdges(t *testing.T) {
	for i, c := range []struct {
		name             string
		n                int
		list, hash, skip api.Errno
	}{
		{"Slots", 1, api.OK, api.OK, api.OK},
		{"Slots", 0, api.ErrRange, api.ErrRange, api.ErrRange},
		{"Slots", -1, api.ErrRange, api.ErrRange, api.ErrRange},
		{"Slots", 8388607, api.OK, api.OK, api.OK},
		{"Slots", 8388608, api.ErrRange, api.ErrRange, api.ErrRange},
		{"Buckets", 0, api.OK, api.ErrRange, api.OK},
		{"Buckets", 1, api.ErrRange, api.OK, api.ErrRange},
		{"Buckets", -1, api.ErrRange, api.ErrRange, api.ErrRange},
		{"Buckets", 64, api.ErrRange, api.OK, api.ErrRange},
		{"Buckets", 65, api.ErrRange, api.ErrRange, api.ErrRange},
		{"Height", 0, api.ErrRange, api.ErrRange, api.ErrRange},
		{"Height", -1, api.ErrRange, api.ErrRange, api.ErrRange},
		{"Height", 1, api.OK, api.OK, api.OK},
		{"Height", 2, api.ErrRange, api.ErrRange, api.OK},
		{"Height", 16, api.ErrRange, api.ErrRange, api.OK},
		{"Height", 17, api.ErrRange, api.ErrRange, api.ErrRange},
		{"Limit", 1, api.ErrRange, api.ErrRange, api.ErrRange},
		{"Limit", 0, api.ErrRange, api.ErrRange, api.ErrRange},
		{"Limit", -2, api.ErrRange, api.ErrRange, api.ErrRange},
		{"Limit", 2, api.OK, api.OK, api.OK},
		{"Limit", 1099511627775, api.OK, api.OK, api.OK},
		{"Limit", 1099511627776, api.ErrRange, api.ErrRange, api.ErrRange},
	} {
		want := map[int]api.Errno{api.List: c.list, api.Hash: c.hash, api.Skip: c.skip}
		for _, of := range some() {
			if err := conf.Check(with(of, c.name, c.n)); err != want[of.Kind] {
				t.Errorf("%d: %v with %s %d: %d", i, of, c.name, c.n, err)
			}
		}
	}
}

// P3.1: Check of all structures of many numbers.
func TestCheck(t *testing.T) {
	for _, c := range all() {
		if err := conf.Check(c); err != judge(c) {
			t.Fatal(c, err, judge(c))
		}
	}
	for _, c := range good() {
		if err := conf.Check(c); err != api.OK {
			t.Error(c, err)
		}
	}
}

// P3.1: the kind comes first, whatever else is wrong.
func TestCheckKindFirst(t *testing.T) {
	for _, k := range kinds {
		if _, is := shapes[k]; is {
			continue
		}
		for _, n := range []int{math.MinInt, -1, 0, 1, math.MaxInt} {
			if err := conf.Check(api.Config{Kind: k, Slots: n, Buckets: n, Height: n, Limit: n}); err != api.ErrKind {
				t.Error(k, n, err)
			}
		}
		for _, c := range some() {
			if err := conf.Check(with(c, "Kind", k)); err != api.ErrKind {
				t.Error(k, c, err)
			}
		}
	}
	if err := conf.Check(api.Config{}); err != api.ErrKind {
		t.Error(err)
	}
}

// P3.1: Roots and Cells of what can be.
func TestRootsAndCells(t *testing.T) {
	for _, c := range good() {
		want := map[int]int{api.List: 1, api.Hash: c.Buckets, api.Skip: c.Height}[c.Kind]
		if n := conf.Roots(c); n != want {
			t.Error(c, "roots", n, want)
		}
		if n := conf.Cells(c); n != 7+c.Height {
			t.Error(c, "cells", n)
		}
	}
	for i, c := range []struct {
		c            api.Config
		roots, cells int
	}{
		{api.Config{Kind: 1, Slots: 8, Height: 1, Limit: 2}, 1, 8},
		{api.Config{Kind: 2, Slots: 8, Buckets: 1, Height: 1, Limit: 2}, 1, 8},
		{api.Config{Kind: 2, Slots: 8, Buckets: 64, Height: 1, Limit: 2}, 64, 8},
		{api.Config{Kind: 3, Slots: 8, Height: 1, Limit: 2}, 1, 8},
		{api.Config{Kind: 3, Slots: 8, Height: 16, Limit: 2}, 16, 23},
	} {
		if r, n := conf.Roots(c.c), conf.Cells(c.c); r != c.roots || n != c.cells {
			t.Error(i, r, n)
		}
	}
}

// P3.1, P3.3: 0 of what can't be, for each fault.
func TestNone(t *testing.T) {
	list := bad()
	for _, c := range list {
		if r, n, a := conf.Roots(c), conf.Cells(c), conf.Alone(c); r != 0 || n != 0 || a != 0 {
			t.Error(c, r, n, a)
		}
		for _, threads := range []int{math.MinInt, -1, 0, 1, 2, 64, 65, math.MaxInt} {
			if w, is := conf.Window(c, threads); w != 0 || is {
				t.Error(c, threads, w, is)
			}
		}
	}
	if len(list) < 300 {
		t.Error(len(list), "structures that can't be")
	}
}

// asked are the kinds of structures that are asked an op of that kind.
func asked(op int) []int {
	switch op {
	case 1, 2, 3:
		return []int{1, 3}
	case 4, 5, 6, 7:
		return []int{2}
	case 8:
		return []int{1, 2, 3}
	}
	return nil
}

// judgeOp is what the document says of an op: its error.
func judgeOp(c api.Config, o api.Op) api.Errno {
	if err := judge(c); err != api.OK {
		return err
	}
	if !slices.Contains(asked(o.Kind), c.Kind) {
		return api.ErrKind
	}
	level := span{0, 0}
	if c.Kind == 3 && o.Kind == 1 {
		level = span{1, c.Height}
	}
	if !level.has(o.Level) {
		return api.ErrRange
	}
	val := o.Kind == 4 || o.Kind == 5
	if !val && o.Val != 0 || o.Kind == 8 && o.Key != 0 {
		return api.ErrArg
	}
	return api.OK
}

// ops are ops of all those numbers.
func ops(levels ...int) []api.Op {
	var list []api.Op
	nums := []uint64{0, 1, 5, 1 << 32, 1 << 63, 1<<64 - 1}
	for _, k := range kinds {
		for _, key := range nums {
			for _, val := range nums {
				for _, level := range levels {
					list = append(list, api.Op{Kind: k, Key: key, Val: val, Level: level})
				}
			}
		}
	}
	return list
}

// P3.2: IsOp of all ops of many numbers, for structures of each kind and height.
func TestIsOp(t *testing.T) {
	list := some()
	for h := 1; h <= maxHeight; h++ {
		list = append(list, api.Config{Kind: api.Skip, Slots: 3, Height: h, Limit: 9})
	}
	for _, c := range list {
		for _, o := range ops(math.MinInt, -1<<32, -1, 0, 1, 2, c.Height-1, c.Height, c.Height+1, 16, 17, 257, 1<<32, 1<<32+1, math.MaxInt) {
			if err := conf.IsOp(c, o); err != judgeOp(c, o) {
				t.Fatal(c, o, err, judgeOp(c, o))
			}
		}
	}
}

// P3.2: which ops can be asked of which structure.
func TestIsOpKinds(t *testing.T) {
	list := api.Config{Kind: api.List, Slots: 8, Height: 1, Limit: 100}
	hash := api.Config{Kind: api.Hash, Slots: 8, Buckets: 4, Height: 1, Limit: 100}
	skip := api.Config{Kind: api.Skip, Slots: 8, Height: 4, Limit: 100}
	for i, c := range []struct {
		kind             int
		list, hash, skip api.Errno
	}{
		{0, api.ErrKind, api.ErrKind, api.ErrKind},
		{api.Insert, api.OK, api.ErrKind, api.OK},
		{api.Delete, api.OK, api.ErrKind, api.OK},
		{api.Has, api.OK, api.ErrKind, api.OK},
		{api.Put, api.ErrKind, api.OK, api.ErrKind},
		{api.Add, api.ErrKind, api.OK, api.ErrKind},
		{api.Remove, api.ErrKind, api.OK, api.ErrKind},
		{api.Get, api.ErrKind, api.OK, api.ErrKind},
		{api.Give, api.OK, api.OK, api.OK},
		{9, api.ErrKind, api.ErrKind, api.ErrKind},
		{-1, api.ErrKind, api.ErrKind, api.ErrKind},
	} {
		o := api.Op{Kind: c.kind}
		raised := o
		if c.kind == api.Insert {
			raised.Level = 1
		}
		if a, b, s := conf.IsOp(list, o), conf.IsOp(hash, o), conf.IsOp(skip, raised); a != c.list || b != c.hash || s != c.skip {
			t.Error(i, a, b, s)
		}
	}
}

// P3.2: levels, of what raises a slot and of all else.
func TestIsOpLevels(t *testing.T) {
	for _, c := range good() {
		for kind := api.Insert; kind <= api.Give; kind++ {
			if judgeOp(c, api.Op{Kind: kind}) == api.ErrKind {
				continue
			}
			low, high := 0, 0
			if c.Kind == api.Skip && kind == api.Insert {
				low, high = 1, c.Height
			}
			for _, level := range []int{low, high} {
				if err := conf.IsOp(c, api.Op{Kind: kind, Level: level}); err != api.OK {
					t.Error(c, kind, level, err)
				}
			}
			for _, level := range []int{math.MinInt, low - 1, high + 1, math.MaxInt} {
				if err := conf.IsOp(c, api.Op{Kind: kind, Level: level}); err != api.ErrRange {
					t.Error(c, kind, level, err)
				}
			}
		}
	}
}

// P3.2: keys and values, of each op.
func TestIsOpArgs(t *testing.T) {
	for _, c := range []struct {
		conf     api.Config
		op       api.Op
		key, val bool
	}{
		{some()[0], api.Op{Kind: api.Insert}, true, false},
		{some()[0], api.Op{Kind: api.Delete}, true, false},
		{some()[0], api.Op{Kind: api.Has}, true, false},
		{some()[0], api.Op{Kind: api.Give}, false, false},
		{some()[2], api.Op{Kind: api.Put}, true, true},
		{some()[2], api.Op{Kind: api.Add}, true, true},
		{some()[2], api.Op{Kind: api.Remove}, true, false},
		{some()[2], api.Op{Kind: api.Get}, true, false},
		{some()[2], api.Op{Kind: api.Give}, false, false},
		{some()[4], api.Op{Kind: api.Insert, Level: 4}, true, false},
		{some()[4], api.Op{Kind: api.Delete}, true, false},
		{some()[4], api.Op{Kind: api.Has}, true, false},
		{some()[4], api.Op{Kind: api.Give}, false, false},
	} {
		for _, key := range []uint64{0, 1, 1 << 32, 1 << 63, 1<<64 - 1} {
			for _, val := range []uint64{0, 1, 1 << 32, 1 << 63, 1<<64 - 1} {
				o := c.op
				o.Key, o.Val = key, val
				want := api.OK
				if key != 0 && !c.key || val != 0 && !c.val {
					want = api.ErrArg
				}
				if err := conf.IsOp(c.conf, o); err != want {
					t.Error(c.conf, o, err, want)
				}
			}
		}
	}
}

// P3.2: where several faults are, the structure's comes first, then the op's kind, then its level, then its key and value.
func TestIsOpOrder(t *testing.T) {
	hash := some()[2]
	for i, c := range []struct {
		conf api.Config
		op   api.Op
		want api.Errno
	}{
		{with(hash, "Kind", 4), api.Op{Kind: 99, Key: 1, Val: 1, Level: 5}, api.ErrKind},
		{with(hash, "Kind", 4), api.Op{Kind: api.Give, Key: 1, Val: 1, Level: 5}, api.ErrKind},
		{with(hash, "Buckets", 65), api.Op{Kind: 99, Key: 1, Val: 1, Level: 5}, api.ErrRange},
		{with(hash, "Buckets", 65), api.Op{Kind: api.Insert, Key: 1, Val: 1, Level: 5}, api.ErrRange},
		{with(hash, "Limit", 1), api.Op{Kind: api.Give, Key: 1, Val: 1}, api.ErrRange},
		{with(hash, "Slots", 0), api.Op{Kind: api.Get, Key: 1}, api.ErrRange},
		{hash, api.Op{Kind: 99, Key: 1, Val: 1, Level: 5}, api.ErrKind},
		{hash, api.Op{Kind: api.Insert, Key: 1, Val: 1, Level: 5}, api.ErrKind},
		{hash, api.Op{Kind: api.Give, Key: 1, Val: 1, Level: 5}, api.ErrRange},
		{hash, api.Op{Kind: api.Get, Key: 1, Val: 1, Level: -1}, api.ErrRange},
		{hash, api.Op{Kind: api.Put, Key: 1, Val: 1, Level: 1}, api.ErrRange},
		{hash, api.Op{Kind: api.Give, Key: 1, Val: 1}, api.ErrArg},
		{some()[4], api.Op{Kind: api.Insert, Key: 1, Val: 1}, api.ErrRange},
		{some()[4], api.Op{Kind: api.Insert, Key: 1, Val: 1, Level: 5}, api.ErrRange},
		{some()[4], api.Op{Kind: api.Insert, Key: 1, Val: 1, Level: 4}, api.ErrArg},
	} {
		if err := conf.IsOp(c.conf, c.op); err != c.want {
			t.Error(i, c.conf, c.op, err)
		}
	}
}

// P3.2: of a structure that can't be it is Check's error, whatever is asked.
func TestIsOpOfNone(t *testing.T) {
	list := append(ops(0, 1), api.Op{}, api.Op{Kind: math.MinInt, Level: math.MinInt}, api.Op{Kind: math.MaxInt, Key: 1<<64 - 1, Val: 1<<64 - 1, Level: math.MaxInt})
	for _, c := range bad() {
		for _, o := range list {
			if err := conf.IsOp(c, o); err != judge(c) {
				t.Fatal(c, o, err, judge(c))
			}
		}
	}
}

// P3.3: Alone, in numbers that don't go round.
func TestAlone(t *testing.T) {
	for _, c := range good() {
		if n, want := conf.Alone(c), product(64, c.Slots+4, c.Height+1); big.NewInt(int64(n)).Cmp(want) != 0 {
			t.Error(c, n, want)
		}
	}
	if n := conf.Alone(api.Config{Kind: api.List, Slots: 1, Height: 1, Limit: 2}); n != 640 {
		t.Error(n)
	}
	if n := conf.Alone(api.Config{Kind: api.Skip, Slots: maxSlots, Height: maxHeight, Limit: maxEpoch}); n != 9126808768 {
		t.Error(n)
	}
}

// P3.3: Window, in numbers that don't go round, for all threads that can be.
func TestWindow(t *testing.T) {
	for _, c := range good() {
		for threads := 1; threads <= maxThreads; threads++ {
			n, is := conf.Window(c, threads)
			want := product(64, threads+1, threads+1, threads+1, c.Slots+2, c.Height+1, c.Height+1)
			if !is || big.NewInt(int64(n)).Cmp(want) != 0 {
				t.Error(c, threads, n, is, want)
			}
		}
	}
	if n, is := conf.Window(api.Config{Kind: api.List, Slots: 1, Height: 1, Limit: 2}, 1); n != 6144 || !is {
		t.Error(n, is)
	}
	if n, is := conf.Window(api.Config{Kind: api.Skip, Slots: maxSlots, Height: maxHeight, Limit: maxEpoch}, 64); n != 42609637425576000 || !is {
		t.Error(n, is)
	}
}

// P3.3: Window of threads that can't be.
func TestWindowThreads(t *testing.T) {
	for _, c := range good() {
		for _, threads := range noThreads {
			if n, is := conf.Window(c, threads); n != 0 || is {
				t.Error(c, threads, n, is)
			}
		}
	}
}

// P3.3: the chapter's example.
func TestExample(t *testing.T) {
	c := api.Config{Kind: api.List, Slots: 8, Height: 1, Limit: 100}
	if n := conf.Alone(c); n != 1536 {
		t.Error(n)
	}
	if n, is := conf.Window(c, 2); n != 69120 || !is {
		t.Error(n, is)
	}
}
