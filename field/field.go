// Package field is layer 1: fields of a word. See shared/doc/01-field.md.
package field

import "math"

// wordBits is how many bits a word has.
const wordBits = 64

// Field is bits of a word, side by side.
type Field struct {
	At    int
	Width int
}

// Is: whether it can be.
func (f Field) Is() bool {
	// At and Width together may go round: what is left above At can't.
	return f.At >= 0 && f.Width >= 1 && f.Width <= wordBits-f.At
}

// Max: its greatest number.
func (f Field) Max() uint64 {
	if !f.Is() {
		return 0
	}
	return math.MaxUint64 >> (wordBits - uint8(f.Width))
}

// mask: its bits, in their places; none, if it can't be.
func (f Field) mask() uint64 { return f.Max() << uint8(f.At) }

// Get: its number in a word.
func (f Field) Get(w uint64) uint64 {
	// What can't be has a Max of 0: nothing of the word is left.
	return w >> uint8(f.At) & f.Max()
}

// Signed: that with a sign.
func (f Field) Signed(w uint64) int64 {
	if !f.Is() {
		return 0
	}
	// Its highest bit becomes the word's highest one: the way back fills up with it.
	beside := wordBits - uint8(f.Width)
	above := beside - uint8(f.At)
	return int64(w<<above) >> beside
}

// Put: a word with another number there; false: there is no such one.
func (f Field) Put(w, x uint64) (uint64, bool) {
	if !f.Is() || x > f.Max() {
		return 0, false
	}
	return w&^f.mask() | x<<uint8(f.At), true
}

// Apart: whether all can be, and no two have a bit in common.
func Apart(list ...Field) bool {
	var taken uint64
	for _, f := range list {
		if !f.Is() || taken&f.mask() != 0 {
			return false
		}
		taken |= f.mask()
	}
	return true
}

// Pack: numbers as a word; false: they can't be.
func Pack(list []Field, nums ...uint64) (uint64, bool) {
	if len(list) != len(nums) || !Apart(list...) {
		return 0, false
	}
	var w uint64
	for i, f := range list {
		next, is := f.Put(w, nums[i])
		if !is {
			return 0, false
		}
		w = next
	}
	return w, true
}

// Unpack: the way back.
func Unpack(list []Field, w uint64) []uint64 {
	nums := make([]uint64, len(list))
	for i, f := range list {
		nums[i] = f.Get(w)
	}
	return nums
}

// Turn: bits, turned round towards the highest.
func Turn(w uint64, n int) uint64 {
	// A whole number of rounds is lost with the high bits, so n below 0 needs no way of its own.
	by := uint8(n) % wordBits
	return w<<by | w>>(wordBits-by)
}

// Int: as an int; false: it is too great.
func Int(w uint64) (int, bool) {
	if w > math.MaxInt64 {
		return 0, false
	}
	return int(w), true
}
