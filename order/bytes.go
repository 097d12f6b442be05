package order

import "revenant/api"

// How many bytes there are of an op, of an answer, and of a word.
const (
	opBytes     = 18
	answerBytes = 10
	wordBytes   = 8
)

// isByte is whether a number can be told in one byte.
func isByte(n int) bool { return n >= 0 && n <= 255 }

// put is b, and a word's bytes behind it.
func put(b []byte, w uint64) []byte {
	for i := wordBytes - 1; i >= 0; i-- {
		b = append(b, byte(w>>(8*i)))
	}
	return b
}

// get is the word whose bytes stand in s from at on.
func get(s string, at int) uint64 {
	w := uint64(0)
	for i := range wordBytes {
		w = w<<8 | uint64(s[at+i])
	}
	return w
}

// Bytes: an op's; ErrRange.
func Bytes(o api.Op) (string, api.Errno) {
	if !isByte(o.Kind) || !isByte(o.Level) {
		return "", api.ErrRange
	}
	b := put(put([]byte{byte(o.Kind)}, o.Key), o.Val)
	return string(append(b, byte(o.Level))), api.OK
}

// Parse: the way back; ErrForm.
func Parse(s string) (api.Op, api.Errno) {
	if len(s) != opBytes {
		return api.Op{}, api.ErrForm
	}
	return api.Op{Kind: int(s[0]), Key: get(s, 1), Val: get(s, 1+wordBytes), Level: int(s[opBytes-1])}, api.OK
}

// AnswerBytes: an answer's; ErrRange.
func AnswerBytes(a api.Answer) (string, api.Errno) {
	if !isByte(int(a.Err)) {
		return "", api.ErrRange
	}
	b := []byte{byte(a.Err), 0}
	if a.Done {
		b[1] = 1
	}
	return string(put(b, a.Val)), api.OK
}

// ParseAnswer: the way back; ErrForm.
func ParseAnswer(s string) (api.Answer, api.Errno) {
	if len(s) != answerBytes || s[1] > 1 {
		return api.Answer{}, api.ErrForm
	}
	return api.Answer{Err: api.Errno(s[0]), Done: s[1] == 1, Val: get(s, 2)}, api.OK
}
