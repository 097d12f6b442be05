package link_test

import (
	"math"
	"math/big"
	"slices"
	"testing"

	"revenant/api"
	"revenant/link"
)

// The limits, as the document says them.
const (
	maxSlot    = 1<<23 - 1
	maxVersion = 1<<40 - 1
)

// slots are slots that can be; versions are versions that can be.
var (
	slots    = []int{0, 1, 2, 3, 7, 8, 255, 256, 65535, 65536, 1<<22 - 1, 1 << 22, 0x2AAAAA, 0x555555, maxSlot - 1, maxSlot}
	versions = []int{0, 1, 2, 3, 255, 256, 1<<23 - 1, 1 << 23, 1<<31 - 1, 1 << 31, 1<<32 - 1, 1 << 32, 1 << 39, 0xAAAAAAAAAA, 0x5555555555, maxVersion - 1, maxVersion}
)

// noSlots are slots that can't be; noVersions are versions that can't be. Many of them look right in their low bits.
var (
	noSlots = []int{
		math.MinInt, math.MinInt + 1, -1 << 40, -1 << 32, -1 << 23, -maxSlot, -2, -1,
		maxSlot + 1, maxSlot + 2, 1 << 24, 1<<24 + 1, 1<<31 - 1, 1 << 31, 1 << 32, 1<<32 + 1, 1 << 40, maxVersion, math.MaxInt - 1, math.MaxInt,
	}
	noVersions = []int{
		math.MinInt, math.MinInt + 1, -1 << 62, -1 << 40, -maxVersion, -1 << 32, -2, -1,
		maxVersion + 1, maxVersion + 2, 1 << 41, 1<<41 + 1, 1 << 62, 1<<63 - 1<<40, math.MaxInt - 1, math.MaxInt,
	}
)

// words are words of many kinds.
func words() []uint64 {
	list := []uint64{
		0, 1, 2, 0xF3, 1<<64 - 1, 1<<64 - 2, 1<<63 - 1, 1<<63 - 2,
		0x0123456789ABCDEF, 0xFEDCBA9876543210, 0xAAAAAAAAAAAAAAAA, 0x5555555555555555,
		0x0000010000000002, 0x8000010000000002,
		maxVersion, maxVersion - 1, 1<<63 | maxVersion, maxSlot << 40, 1<<63 | maxSlot<<40,
	}
	for k := range 64 {
		list = append(list, 1<<k, ^uint64(1<<k), 1<<63|1<<k)
	}
	// Words without any order, always the same ones.
	w := uint64(1)
	for range 2000 {
		w = w*6364136223846793005 + 1442695040888963407
		list = append(list, w, w^w>>29)
	}
	return list
}

// all are links that can be.
func all() []link.Link {
	var list []link.Link
	for _, slot := range slots {
		for _, version := range versions {
			list = append(list, link.Link{Slot: slot, Version: version}, link.Link{Mark: true, Slot: slot, Version: version})
		}
	}
	return list
}

// pair is where a link leads to, and its version.
type pair struct{ slot, version int }

// none are pairs of which one or both can't be.
func none() []pair {
	var list []pair
	for _, slot := range noSlots {
		for _, version := range slices.Concat(versions, noVersions) {
			list = append(list, pair{slot, version})
		}
	}
	for _, slot := range slots {
		for _, version := range noVersions {
			list = append(list, pair{slot, version})
		}
	}
	return list
}

// word is a link's word as the document says it, in numbers that don't go round.
func word(l link.Link) uint64 {
	n := new(big.Int).Mul(big.NewInt(int64(l.Slot)), new(big.Int).Lsh(big.NewInt(1), 40))
	n.Add(n, big.NewInt(int64(l.Version)))
	if l.Mark {
		n.Add(n, new(big.Int).Lsh(big.NewInt(1), 63))
	}
	return n.Uint64()
}

// cut is the bits of a word from at on, as many as width, one by one.
func cut(w uint64, at, width int) int {
	n := 0
	for k := range width {
		n += int(new(big.Int).SetUint64(w).Bit(at+k)) << k
	}
	return n
}

// The limits of the chapter are those of api.
func TestLimits(t *testing.T) {
	if api.MaxSlots != maxSlot || api.MaxEpoch != maxVersion {
		t.Error(api.MaxSlots, api.MaxEpoch)
	}
}

// P2.1: Is, at the limits and one beyond them.
func TestIs(t *testing.T) {
	for _, l := range all() {
		if !l.Is() {
			t.Error(l, "can be")
		}
	}
	for _, p := range none() {
		for _, mark := range []bool{false, true} {
			if l := (link.Link{Mark: mark, Slot: p.slot, Version: p.version}); l.Is() {
				t.Error(l, "can't be")
			}
		}
	}
}

// P2.1: Word, To and Marked of what can be.
func TestWord(t *testing.T) {
	for _, l := range all() {
		if w := l.Word(); w != word(l) {
			t.Errorf("%v: %x, not %x", l, w, word(l))
		}
		plain, marked := l, l
		plain.Mark, marked.Mark = false, true
		if w := link.To(l.Slot, l.Version); w != word(plain) {
			t.Errorf("to %v: %x", l, w)
		}
		if w := link.Marked(0, l.Slot, l.Version); w != word(marked) {
			t.Errorf("marked %v: %x", l, w)
		}
	}
}

// P2.1: a word without a mark plays no part in Marked.
func TestMarkedOfPlain(t *testing.T) {
	for _, w := range words() {
		plain := w &^ (1 << 63)
		for _, p := range []pair{{0, 0}, {1, 2}, {maxSlot, 0}, {0, maxVersion}, {maxSlot, maxVersion}} {
			want := word(link.Link{Mark: true, Slot: p.slot, Version: p.version})
			if got := link.Marked(plain, p.slot, p.version); got != want {
				t.Errorf("%x marked %v: %x", plain, p, got)
			}
		}
		for _, p := range []pair{{-1, 2}, {maxSlot + 1, 2}, {1, -1}, {1, maxVersion + 1}} {
			if got := link.Marked(plain, p.slot, p.version); got != 0 {
				t.Errorf("%x marked %v: %x", plain, p, got)
			}
		}
	}
}

// P2.1: of what can't be the word is 0.
func TestNone(t *testing.T) {
	for _, p := range none() {
		for _, mark := range []bool{false, true} {
			if w := (link.Link{Mark: mark, Slot: p.slot, Version: p.version}).Word(); w != 0 {
				t.Errorf("%v %v: %x", mark, p, w)
			}
		}
		if w := link.To(p.slot, p.version); w != 0 {
			t.Errorf("to %v: %x", p, w)
		}
		for _, w := range []uint64{0, 1, 0x0000010000000002, 1<<63 - 1} {
			if got := link.Marked(w, p.slot, p.version); got != 0 {
				t.Errorf("%x marked %v: %x", w, p, got)
			}
		}
	}
}

// P2.1: Of, IsMarked, Slot and Version, bit by bit.
func TestOf(t *testing.T) {
	for _, w := range words() {
		want := link.Link{Mark: cut(w, 63, 1) == 1, Slot: cut(w, 40, 23), Version: cut(w, 0, 40)}
		if l := link.Of(w); l != want {
			t.Errorf("%x: %v, not %v", w, l, want)
		}
		if link.IsMarked(w) != want.Mark || link.Slot(w) != want.Slot || link.Version(w) != want.Version {
			t.Errorf("%x: %v %d %d", w, link.IsMarked(w), link.Slot(w), link.Version(w))
		}
	}
}

// P2.1: the greatest word, and the least one.
func TestEndWords(t *testing.T) {
	if l := link.Of(1<<64 - 1); l != (link.Link{Mark: true, Slot: maxSlot, Version: maxVersion}) || !l.Is() || l.Word() != 1<<64-1 {
		t.Error(l)
	}
	if l := link.Of(0); l != (link.Link{}) || !l.Is() || l.Word() != 0 {
		t.Error(l)
	}
	if w := link.To(maxSlot, maxVersion); w != 1<<63-1 {
		t.Errorf("%x", w)
	}
	if w := link.Marked(0, 0, 0); w != 1<<63 || !link.IsMarked(w) || link.Slot(w) != 0 || link.Version(w) != 0 {
		t.Errorf("%x", w)
	}
}

// P2.1: the chapter's example.
func TestExample(t *testing.T) {
	if w := link.To(1, 2); w != 0x0000010000000002 {
		t.Errorf("%x", w)
	}
	if w := link.Marked(0, 1, 2); w != 0x8000010000000002 {
		t.Errorf("%x", w)
	}
	if w := (link.Link{Mark: true, Slot: 1, Version: 2}).Word(); w != 0x8000010000000002 {
		t.Errorf("%x", w)
	}
}

// P2.2: Marked of a word that has a mark is that word, whatever slot and version are handed in.
func TestMarkedStays(t *testing.T) {
	pairs := []pair{
		{0, 0}, {1, 2}, {maxSlot, maxVersion}, {-1, 0}, {maxSlot + 1, 0}, {0, -1}, {0, maxVersion + 1},
		{math.MinInt, math.MinInt}, {math.MaxInt, math.MaxInt},
	}
	for _, w := range words() {
		w |= 1 << 63
		for _, p := range pairs {
			if got := link.Marked(w, p.slot, p.version); got != w {
				t.Errorf("%x marked %v: %x", w, p, got)
			}
		}
	}
	for _, p := range none() {
		if got := link.Marked(0x8000010000000002, p.slot, p.version); got != 0x8000010000000002 {
			t.Errorf("%v: %x", p, got)
		}
	}
}

// P2.2: Next, of words with a mark and without.
func TestNext(t *testing.T) {
	for _, w := range words() {
		version := cut(w, 0, 40)
		for _, slot := range slots {
			got, err := link.Next(w, slot)
			if version == maxVersion {
				if got != 0 || err != api.ErrEpoch {
					t.Errorf("%x next %d: %x %d", w, slot, got, err)
				}
				continue
			}
			if want := word(link.Link{Slot: slot, Version: version + 1}); got != want || err != api.OK {
				t.Errorf("%x next %d: %x %d", w, slot, got, err)
			}
		}
	}
}

// P2.2: Next up to the last version, and not beyond it.
func TestNextAtTheEnd(t *testing.T) {
	for _, mark := range []bool{false, true} {
		for _, slot := range []int{0, 1, maxSlot} {
			w := link.Link{Mark: mark, Slot: slot, Version: maxVersion - 1}.Word()
			last, err := link.Next(w, 5)
			if last != 5<<40|maxVersion || err != api.OK {
				t.Errorf("%x: %x %d", w, last, err)
			}
			if got, err := link.Next(last, 5); got != 0 || err != api.ErrEpoch {
				t.Errorf("%x: %x %d", last, got, err)
			}
			if got, err := link.Next(w+1, 0); got != 0 || err != api.ErrEpoch {
				t.Errorf("%x: %x %d", w+1, got, err)
			}
		}
	}
}

// P2.2: a slot that can't be comes first, also where no version is left.
func TestNextOfNoSlot(t *testing.T) {
	for _, slot := range noSlots {
		for _, w := range []uint64{0, 1, 0x0000010000000002, 0x8000010000000002, maxVersion, 1<<63 | maxVersion, 1<<63 - 1, 1<<64 - 1} {
			if got, err := link.Next(w, slot); got != 0 || err != api.ErrRange {
				t.Errorf("%x next %d: %x %d", w, slot, got, err)
			}
		}
	}
}

// P2.3: Newer looks at versions alone.
func TestNewer(t *testing.T) {
	for _, a := range all() {
		for _, b := range all() {
			want := 0
			if a.Version < b.Version {
				want = -1
			}
			if a.Version > b.Version {
				want = 1
			}
			if got := link.Newer(a.Word(), b.Word()); got != want {
				t.Fatal(a, b, got, want)
			}
		}
	}
}

// P2.3: of any words, either way round.
func TestNewerWords(t *testing.T) {
	list := words()
	for i, a := range list {
		b := list[len(list)-1-i]
		want := big.NewInt(int64(cut(a, 0, 40))).Cmp(big.NewInt(int64(cut(b, 0, 40))))
		if link.Newer(a, b) != want || link.Newer(b, a) != -want || link.Newer(a, a) != 0 {
			t.Errorf("%x %x: %d %d", a, b, link.Newer(a, b), link.Newer(b, a))
		}
	}
}

// P2.3: a version that Next made is newer.
func TestNextIsNewer(t *testing.T) {
	for _, w := range words() {
		if got, err := link.Next(w, 1); err == api.OK && (link.Newer(got, w) != 1 || link.Newer(w, got) != -1) {
			t.Errorf("%x %x", w, got)
		}
	}
}

// P2.4: unlike links have unlike words.
func TestUnlike(t *testing.T) {
	seen := make(map[uint64]link.Link)
	for _, l := range all() {
		if other, is := seen[l.Word()]; is {
			t.Error(l, other, "have one word")
		}
		seen[l.Word()] = l
		if back := link.Of(l.Word()); back != l {
			t.Error(l, back)
		}
	}
}

// P2.4: each word is a link's that can be, and that link's word.
func TestEachWord(t *testing.T) {
	for _, w := range words() {
		l := link.Of(w)
		if !l.Is() || l.Word() != w {
			t.Errorf("%x: %v %x", w, l, l.Word())
		}
		if l.Mark {
			if got := link.Marked(0, l.Slot, l.Version); got != w {
				t.Errorf("%x: %x", w, got)
			}
		} else if got := link.To(l.Slot, l.Version); got != w {
			t.Errorf("%x: %x", w, got)
		}
	}
}
