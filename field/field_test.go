package field_test

import (
	"math"
	"math/big"
	"slices"
	"testing"

	"revenant/field"
)

// ends are whole numbers about the limits and at the ends of their type.
var ends = []int{
	math.MinInt, math.MinInt + 1, -1 << 62, -1 << 32, -257, -256, -129, -128, -65, -64, -63, -2, -1,
	0, 1, 2, 3, 4, 7, 8, 31, 32, 33, 62, 63, 64, 65, 127, 128, 129, 255, 256, 257, 320,
	1 << 32, 1<<32 + 1, 1 << 62, 1<<63 - 64, math.MaxInt - 1, math.MaxInt,
}

// words are words of many kinds.
var words = []uint64{
	0, 1, 2, 0xF3, 0x8000000000000001, 1 << 63, 1<<63 - 1, 1<<64 - 1,
	0x0123456789ABCDEF, 0xFEDCBA9876543210, 0xAAAAAAAAAAAAAAAA, 0x5555555555555555,
	0x0000010000000002, 0x8000010000000002, 1 << 40, 1<<40 - 1, 1 << 62,
}

// canBe tells what the document says of At and Width, in numbers that don't go round.
func canBe(f field.Field) bool {
	both := new(big.Int).Add(big.NewInt(int64(f.At)), big.NewInt(int64(f.Width)))
	return f.At >= 0 && f.Width >= 1 && both.Cmp(big.NewInt(64)) <= 0
}

// all are all fields that can be.
func all() []field.Field {
	var list []field.Field
	for at := range 64 {
		for width := 1; width <= 64-at; width++ {
			list = append(list, field.Field{At: at, Width: width})
		}
	}
	return list
}

// none are fields that can't be.
func none() []field.Field {
	list := []field.Field{{At: 0, Width: 0}, {At: 64, Width: 0}, {At: 1 << 62, Width: 1 << 62}, {At: math.MaxInt, Width: 1}, {At: 1, Width: math.MaxInt}}
	for _, at := range ends {
		for _, width := range ends {
			if f := (field.Field{At: at, Width: width}); !canBe(f) {
				list = append(list, f)
			}
		}
	}
	return list
}

// bit is whether a word has the bit k.
func bit(w uint64, k int) bool { return new(big.Int).SetUint64(w).Bit(k) == 1 }

// power is 2 to the power of n.
func power(n int) *big.Int { return new(big.Int).Lsh(big.NewInt(1), uint(n)) }

// number is a field's number in a word, bit by bit.
func number(f field.Field, w uint64) *big.Int {
	n := new(big.Int)
	for k := range f.Width {
		if bit(w, f.At+k) {
			n.Add(n, power(k))
		}
	}
	return n
}

// signed is that with a sign, as the document says it.
func signed(f field.Field, w uint64) *big.Int {
	n := number(f, w)
	if bit(w, f.At+f.Width-1) {
		n.Sub(n, power(f.Width))
	}
	return n
}

// P1.1: Is.
func TestIs(t *testing.T) {
	for _, f := range all() {
		if !f.Is() {
			t.Error(f, "can be")
		}
	}
	for _, f := range none() {
		if f.Is() {
			t.Error(f, "can't be")
		}
	}
	if n := len(all()); n != 64*65/2 {
		t.Error(n, "fields")
	}
}

// P1.1: Max, Get and Signed.
func TestNumber(t *testing.T) {
	for _, f := range all() {
		if most := new(big.Int).Sub(power(f.Width), big.NewInt(1)); f.Max() != most.Uint64() {
			t.Error(f, "max", f.Max(), most)
		}
		for _, w := range words {
			if f.Get(w) != number(f, w).Uint64() {
				t.Errorf("%v get %x: %x", f, w, f.Get(w))
			}
			if f.Signed(w) != signed(f, w).Int64() {
				t.Errorf("%v signed %x: %d", f, w, f.Signed(w))
			}
		}
	}
}

// P1.1: the chapter's example.
func TestExample(t *testing.T) {
	f := field.Field{At: 4, Width: 4}
	if f.Get(0xF3) != 15 || f.Signed(0xF3) != -1 || f.Max() != 15 {
		t.Error(f.Get(0xF3), f.Signed(0xF3), f.Max())
	}
	if f.Signed(0x73) != 7 || f.Signed(0x83) != -8 {
		t.Error(f.Signed(0x73), f.Signed(0x83))
	}
}

// P1.1: a field of one bit, and one that is the whole word.
func TestNarrowAndWide(t *testing.T) {
	top := field.Field{At: 63, Width: 1}
	if top.Max() != 1 || top.Get(1<<63) != 1 || top.Signed(1<<63) != -1 || top.Signed(1<<63-1) != 0 {
		t.Error(top.Max(), top.Get(1<<63), top.Signed(1<<63), top.Signed(1<<63-1))
	}
	whole := field.Field{At: 0, Width: 64}
	if whole.Max() != 1<<64-1 || whole.Signed(1<<63) != math.MinInt64 || whole.Signed(1<<64-1) != -1 {
		t.Error(whole.Max(), whole.Signed(1<<63))
	}
	if w, is := whole.Put(5, 1<<64-1); !is || w != 1<<64-1 {
		t.Error(w, is)
	}
}

// P1.1: Put, up to Max and beyond it.
func TestPut(t *testing.T) {
	for _, f := range all() {
		for _, w := range words {
			for _, x := range []uint64{0, 1, f.Max() / 2, f.Max() - 1, f.Max()} {
				checkPut(t, f, w, x)
			}
			if f.Width == 64 {
				continue
			}
			for _, x := range []uint64{f.Max() + 1, 1 << 63, 1<<64 - 1} {
				if got, is := f.Put(w, x); got != 0 || is {
					t.Errorf("%v put %x into %x: %x %v", f, x, w, got, is)
				}
			}
		}
	}
}

// checkPut holds each bit of what Put answers against what it must be.
func checkPut(t *testing.T, f field.Field, w, x uint64) {
	t.Helper()
	got, is := f.Put(w, x)
	if !is || f.Get(got) != x {
		t.Errorf("%v put %x into %x: %x %v", f, x, w, got, is)
	}
	for k := range 64 {
		want := bit(w, k)
		if k >= f.At && k < f.At+f.Width {
			want = bit(x, k-f.At)
		}
		if bit(got, k) != want {
			t.Errorf("%v put %x into %x: %x at the bit %d", f, x, w, got, k)
		}
	}
}

// P1.1: of a field that can't be all is 0, and nothing is put.
func TestNone(t *testing.T) {
	for _, f := range none() {
		if f.Max() != 0 {
			t.Error(f, "max", f.Max())
		}
		for _, w := range words {
			if f.Get(w) != 0 || f.Signed(w) != 0 {
				t.Errorf("%v %x: %x %d", f, w, f.Get(w), f.Signed(w))
			}
			for _, x := range words {
				if got, is := f.Put(w, x); got != 0 || is {
					t.Errorf("%v put %x into %x: %x %v", f, x, w, got, is)
				}
			}
		}
	}
}

// P1.2: of two fields.
func TestApartPairs(t *testing.T) {
	if !field.Apart() || !field.Apart([]field.Field{}...) {
		t.Error("of none")
	}
	for _, a := range all() {
		if !field.Apart(a) || field.Apart(a, a) {
			t.Error(a)
		}
		for _, b := range all() {
			want := a.At+a.Width <= b.At || b.At+b.Width <= a.At
			if field.Apart(a, b) != want {
				t.Error(a, b, "apart", !want)
			}
		}
	}
}

// P1.2: of many fields, and of those that can't be.
func TestApartLists(t *testing.T) {
	var bits []field.Field
	for at := range 64 {
		bits = append(bits, field.Field{At: 63 - at, Width: 1})
	}
	if !field.Apart(bits...) {
		t.Error("64 bits")
	}
	if field.Apart(append(slices.Clone(bits), field.Field{At: 17, Width: 1})...) {
		t.Error("65 bits")
	}
	if field.Apart(field.Field{At: 0, Width: 4}, field.Field{At: 8, Width: 4}, field.Field{At: 3, Width: 1}) {
		t.Error("first and third")
	}
	for _, f := range none() {
		if field.Apart(f) || field.Apart(f, field.Field{At: 3, Width: 1}) || field.Apart(field.Field{At: 3, Width: 1}, f) {
			t.Error(f, "can't be")
		}
	}
}

// P1.2: Pack, in order, all other bits 0.
func TestPack(t *testing.T) {
	list := []field.Field{{At: 63, Width: 1}, {At: 0, Width: 40}, {At: 41, Width: 22}}
	for i, c := range []struct {
		nums []uint64
		want uint64
		is   bool
	}{
		{[]uint64{1, 2, 3}, 1<<63 | 2 | 3<<41, true},
		{[]uint64{0, 0, 0}, 0, true},
		{[]uint64{1, 1<<40 - 1, 1<<22 - 1}, 1<<64 - 1 - 1<<40, true},
		{[]uint64{2, 2, 3}, 0, false},
		{[]uint64{1, 1 << 40, 3}, 0, false},
		{[]uint64{1, 2, 1 << 22}, 0, false},
		{[]uint64{1, 2, 1<<64 - 1}, 0, false},
		{[]uint64{1, 2}, 0, false},
		{[]uint64{1, 2, 3, 0}, 0, false},
		{nil, 0, false},
	} {
		if w, is := field.Pack(list, c.nums...); w != c.want || is != c.is {
			t.Errorf("%d: %x %v", i, w, is)
		}
	}
}

// P1.2: Pack of none, of fields that aren't apart, and of those that can't be.
func TestPackEdges(t *testing.T) {
	if w, is := field.Pack(nil); w != 0 || !is {
		t.Error(w, is)
	}
	if w, is := field.Pack(nil, 0); w != 0 || is {
		t.Error(w, is)
	}
	if w, is := field.Pack([]field.Field{{At: 0, Width: 64}}, 1<<64-1); w != 1<<64-1 || !is {
		t.Error(w, is)
	}
	if w, is := field.Pack([]field.Field{{At: 0, Width: 4}, {At: 3, Width: 2}}, 0, 0); w != 0 || is {
		t.Error(w, is)
	}
	for _, f := range none() {
		if w, is := field.Pack([]field.Field{{At: 0, Width: 1}, f}, 1, 0); w != 0 || is {
			t.Error(f, w, is)
		}
	}
}

// P1.2: Unpack, of fields that may have bits in common, or can't be.
func TestUnpack(t *testing.T) {
	if l := field.Unpack(nil, 1<<64-1); len(l) != 0 {
		t.Error(l)
	}
	list := []field.Field{{At: 4, Width: 4}, {At: 0, Width: 8}, {At: 5, Width: -1}, {At: 60, Width: 5}, {At: 63, Width: 1}, {At: 4, Width: 4}}
	if l := field.Unpack(list, 1<<63|0xF3); !slices.Equal(l, []uint64{15, 0xF3, 0, 0, 1, 15}) {
		t.Error(l)
	}
	for _, w := range words {
		l := field.Unpack(all(), w)
		if len(l) != len(all()) {
			t.Fatal(len(l))
		}
		for i, f := range all() {
			if l[i] != number(f, w).Uint64() {
				t.Errorf("%v %x: %x", f, w, l[i])
			}
		}
	}
}

// P1.2: lists that are handed in aren't changed, and answers share nothing.
func TestLists(t *testing.T) {
	room := []field.Field{{At: 0, Width: 4}, {At: 4, Width: 4}, {At: 8, Width: 4}, {At: 99, Width: 99}}
	nums := []uint64{1, 2, 3, 99}
	wantRoom, wantNums := slices.Clone(room), slices.Clone(nums)
	if w, is := field.Pack(room[:3], nums[:3]...); w != 0x321 || !is {
		t.Error(w, is)
	}
	a := field.Unpack(room[:3], 0x321)
	b := field.Unpack(room[:3], 0x321)
	a[0] = 77
	if !slices.Equal(b, nums[:3]) || !field.Apart(room[:3]...) {
		t.Error(b)
	}
	if !slices.Equal(room, wantRoom) || !slices.Equal(nums, wantNums) {
		t.Error(room, nums)
	}
}

// P1.3: Turn, bit by bit.
func TestTurn(t *testing.T) {
	for _, n := range ends {
		by := int(new(big.Int).Mod(big.NewInt(int64(n)), big.NewInt(64)).Int64())
		for _, w := range words {
			got := field.Turn(w, n)
			for k := range 64 {
				if bit(got, (k+by)%64) != bit(w, k) {
					t.Errorf("%x by %d: %x at the bit %d", w, n, got, k)
				}
			}
		}
	}
	for n := -200; n <= 200; n++ {
		if w := field.Turn(field.Turn(0x0123456789ABCDEF, n), -n); w != 0x0123456789ABCDEF {
			t.Errorf("%d: %x", n, w)
		}
		if w := field.Turn(1, n); w != 1<<(uint(n+256)%64) {
			t.Errorf("1 by %d: %x", n, w)
		}
	}
}

// P1.3: Int, up to 2^63 - 1 and beyond it.
func TestInt(t *testing.T) {
	for _, w := range []uint64{0, 1, 1<<31 - 1, 1 << 31, 1<<32 - 1, 1 << 32, 1 << 62, 1<<63 - 1} {
		if n, is := field.Int(w); !is || n < 0 || uint64(n) != w {
			t.Error(w, n, is)
		}
	}
	for _, w := range []uint64{1 << 63, 1<<63 + 1, 1<<64 - 2, 1<<64 - 1} {
		if n, is := field.Int(w); is || n != 0 {
			t.Error(w, n, is)
		}
	}
}

// P1.4: what was put is got, and no other field of the word is another one.
func TestPutIsGot(t *testing.T) {
	for _, f := range all() {
		low, high := field.Field{At: 0, Width: f.At}, field.Field{At: f.At + f.Width, Width: 64 - f.At - f.Width}
		for _, w := range words {
			for _, v := range words {
				x := f.Get(v)
				got, is := f.Put(w, x)
				if !is || f.Get(got) != x || f.Signed(got) != f.Signed(v) {
					t.Errorf("%v put %x into %x: %x %v", f, x, w, got, is)
				}
				if low.Get(got) != low.Get(w) || high.Get(got) != high.Get(w) {
					t.Errorf("%v put %x into %x: %x beside", f, x, w, got)
				}
				if back, is := f.Put(got, f.Get(w)); !is || back != w {
					t.Errorf("%v %x: back %x", f, w, back)
				}
			}
		}
	}
}

// P1.4: what was packed is unpacked, and what was unpacked of a whole word is packed.
func TestPackIsUnpacked(t *testing.T) {
	for a := 1; a < 63; a++ {
		for b := a + 1; b < 64; b++ {
			list := []field.Field{{At: b, Width: 64 - b}, {At: 0, Width: a}, {At: a, Width: b - a}}
			for _, w := range words {
				nums := field.Unpack(list, w)
				if got, is := field.Pack(list, nums...); !is || got != w {
					t.Errorf("%v %x: %x %v", list, w, got, is)
				}
			}
			nums := []uint64{list[0].Max(), 1, list[2].Max() / 2}
			w, is := field.Pack(list, nums...)
			if !is || !slices.Equal(field.Unpack(list, w), nums) {
				t.Errorf("%v %v: %x %v", list, nums, w, is)
			}
		}
	}
}
