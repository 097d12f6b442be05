package order_test

import (
	"math"
	"strings"
	"testing"

	"revenant/api"
	"revenant/order"
)

// words are words, each bit of which is 1 in one and 0 in another, the ends among them.
func words() []uint64 {
	list := []uint64{0, 5, 0x0102030405060708, 0x8081FEFF7F80C2A9, math.MaxUint64 - 1, math.MaxUint64}
	for i := range 64 {
		list = append(list, 1<<i)
	}
	return list
}

// The numbers that can be told in a byte, and those beside them that can't.
var (
	inside  = []int{0, 1, 3, 8, 9, 127, 128, 254, 255}
	outside = []int{-1, 256, 257, -255, -256, 511, 1 << 32, 1<<32 + 3, math.MaxInt, math.MaxInt - 255, math.MinInt, math.MinInt + 3}
)

// bytesOf is a row of bytes, by hand.
func bytesOf(list ...int) string {
	b := make([]byte, len(list))
	for i, n := range list {
		b[i] = byte(n)
	}
	return string(b)
}

// bigEnd is what eight bytes are as a word, the highest first, by products and sums.
func bigEnd(s string) uint64 {
	w := uint64(0)
	for i := range len(s) {
		w = w*256 + uint64(s[i])
	}
	return w
}

// P20.2: the example of the chapter, and rows of bytes written by hand.
func TestExample(t *testing.T) {
	for _, c := range []struct {
		op   api.Op
		want string
	}{
		{has(5), "\x03" + strings.Repeat("\x00", 7) + "\x05" + strings.Repeat("\x00", 9)},
		{api.Op{}, strings.Repeat("\x00", 18)},
		{give, "\x08" + strings.Repeat("\x00", 17)},
		{insert(0x0102030405060708, 16), bytesOf(1, 1, 2, 3, 4, 5, 6, 7, 8, 0, 0, 0, 0, 0, 0, 0, 0, 16)},
		{put(0x8081828384858687, 0xF0F1F2F3F4F5F6F7), bytesOf(4, 0x80, 0x81, 0x82, 0x83, 0x84, 0x85, 0x86, 0x87, 0xF0, 0xF1, 0xF2, 0xF3, 0xF4, 0xF5, 0xF6, 0xF7, 0)},
		{add(math.MaxUint64, 1), bytesOf(5, 255, 255, 255, 255, 255, 255, 255, 255, 0, 0, 0, 0, 0, 0, 0, 1, 0)},
		{api.Op{Kind: 255, Key: math.MaxUint64, Val: math.MaxUint64, Level: 255}, strings.Repeat("\xFF", 18)},
	} {
		if s, err := order.Bytes(c.op); s != c.want || err != api.OK {
			t.Errorf("%v is %x %v", c.op, s, err)
		}
		if o, err := order.Parse(c.want); o != c.op || err != api.OK {
			t.Errorf("%x is %v %v", c.want, o, err)
		}
	}
	for _, c := range []struct {
		answer api.Answer
		want   string
	}{
		{no, strings.Repeat("\x00", 10)},
		{yes, bytesOf(0, 1, 0, 0, 0, 0, 0, 0, 0, 0)},
		{had(0x0102030405060708), bytesOf(0, 1, 1, 2, 3, 4, 5, 6, 7, 8)},
		{kept(0xF0F1F2F3F4F5F6F7), bytesOf(0, 0, 0xF0, 0xF1, 0xF2, 0xF3, 0xF4, 0xF5, 0xF6, 0xF7)},
		{refused(api.ErrFull), bytesOf(6, 0, 0, 0, 0, 0, 0, 0, 0, 0)},
		{refused(api.ErrEpoch), bytesOf(7, 0, 0, 0, 0, 0, 0, 0, 0, 0)},
		{api.Answer{Err: 255, Done: true, Val: math.MaxUint64}, bytesOf(255, 1, 255, 255, 255, 255, 255, 255, 255, 255)},
	} {
		if s, err := order.AnswerBytes(c.answer); s != c.want || err != api.OK {
			t.Errorf("%v is %x %v", c.answer, s, err)
		}
		if a, err := order.ParseAnswer(c.want); a != c.answer || err != api.OK {
			t.Errorf("%x is %v %v", c.want, a, err)
		}
	}
}

// opIs holds that an op has these bytes, and these bytes are that op.
func opIs(t *testing.T, o api.Op, want string) {
	t.Helper()
	s, err := order.Bytes(o)
	if s != want || err != api.OK {
		t.Fatalf("%v is %x %v, not %x", o, s, err, want)
	}
	if got, err := order.Parse(s); got != o || err != api.OK {
		t.Fatalf("%x is %v %v, not %v", s, got, err, o)
	}
}

// answerIs is the same of an answer.
func answerIs(t *testing.T, a api.Answer, want string) {
	t.Helper()
	s, err := order.AnswerBytes(a)
	if s != want || err != api.OK {
		t.Fatalf("%v is %x %v, not %x", a, s, err, want)
	}
	if got, err := order.ParseAnswer(s); got != a || err != api.OK {
		t.Fatalf("%x is %v %v, not %v", s, got, err, a)
	}
}

// P20.2: each byte at each place of an op's and of an answer's bytes alone, and beside bytes above 127: which part it is of.
func TestPlaces(t *testing.T) {
	for _, fill := range []int{0, 1, 0x80, 0xC3, 255} {
		for at := range 18 {
			for n := range 256 {
				row := strings.Split(strings.Repeat(bytesOf(fill), 18), "")
				row[at] = bytesOf(n)
				s := strings.Join(row, "")
				opIs(t, api.Op{Kind: int(s[0]), Key: bigEnd(s[1:9]), Val: bigEnd(s[9:17]), Level: int(s[17])}, s)
			}
		}
	}
	for _, fill := range []int{0, 1, 0x80, 0xC3, 255} {
		for at := range 10 {
			for n := range 256 {
				row := strings.Split(strings.Repeat(bytesOf(fill), 10), "")
				row[at] = bytesOf(n)
				if at != 1 {
					row[1] = bytesOf(n % 2)
				}
				s := strings.Join(row, "")
				a, err := order.ParseAnswer(s)
				if at == 1 && n > 1 {
					if a != no || err != api.ErrForm {
						t.Fatalf("%x is %v %v", s, a, err)
					}
					continue
				}
				answerIs(t, api.Answer{Err: api.Errno(s[0]), Done: s[1] == 1, Val: bigEnd(s[2:])}, s)
			}
		}
	}
}

// P20.2: an op whose Kind or Level is no byte, and an answer whose Err is none: ErrRange, and no bytes.
func TestRange(t *testing.T) {
	for _, w := range []uint64{0, 5, math.MaxUint64} {
		for _, out := range outside {
			for _, n := range append(inside, outside...) {
				for _, o := range []api.Op{{Kind: out, Key: w, Val: w, Level: n}, {Kind: n, Key: w, Val: w, Level: out}} {
					if s, err := order.Bytes(o); s != "" || err != api.ErrRange {
						t.Errorf("%v is %x %v", o, s, err)
					}
				}
			}
			for _, done := range []bool{false, true} {
				if s, err := order.AnswerBytes(api.Answer{Err: api.Errno(out), Done: done, Val: w}); s != "" || err != api.ErrRange {
					t.Errorf("%v is %x %v", out, s, err)
				}
			}
		}
	}
}

// P20.2: rows of so many bytes that they are nothing's: ErrForm, and the zero op, or answer.
func TestForm(t *testing.T) {
	for _, fill := range []string{"\x00", "\x01", "\x80", "\xFF", "a"} {
		for n := range 300 {
			s := strings.Repeat(fill, n)
			if o, err := order.Parse(s); (err != api.OK) != (n != 18) || n != 18 && (o != api.Op{} || err != api.ErrForm) {
				t.Errorf("%d of %x are %v %v", n, fill, o, err)
			}
			is := n == 10 && fill[0] <= 1
			if a, err := order.ParseAnswer(s); (err == api.OK) != is || !is && (a != no || err != api.ErrForm) {
				t.Errorf("%d of %x are %v %v", n, fill, a, err)
			}
		}
	}
	// As many runes as there are to be bytes, and as many bytes in fewer runes.
	for _, s := range []string{strings.Repeat("\u00e9", 18), strings.Repeat("\u20ac", 10)} {
		if o, err := order.Parse(s); o != (api.Op{}) || err != api.ErrForm {
			t.Error(o, err)
		}
		if a, err := order.ParseAnswer(s); a != no || err != api.ErrForm {
			t.Error(a, err)
		}
	}
	opIs(t, api.Op{Kind: 0xC3, Key: 0xA9C3A9C3A9C3A9C3, Val: 0xA9C3A9C3A9C3A9C3, Level: 0xA9}, strings.Repeat("\u00e9", 9))
}

// P20.2, P20.3: ops and answers of all Kinds, Errs, Keys, Vals and Levels are told and read as they were; unlike ones have unlike bytes.
func TestUnlike(t *testing.T) {
	told := map[string]api.Op{}
	for _, kind := range inside {
		for _, level := range inside {
			for _, key := range words() {
				for _, val := range words() {
					o := api.Op{Kind: kind, Key: key, Val: val, Level: level}
					s, err := order.Bytes(o)
					if other, is := told[s]; is || err != api.OK || len(s) != 18 {
						t.Fatalf("%v is %x %v, as is %v", o, s, err, other)
					}
					if got, err := order.Parse(s); got != o || err != api.OK {
						t.Fatalf("%v is read as %v %v", o, got, err)
					}
					told[s] = o
				}
			}
		}
	}
	answers := map[string]api.Answer{}
	for err := range 256 {
		for _, done := range []bool{false, true} {
			for _, val := range words() {
				a := api.Answer{Err: api.Errno(err), Done: done, Val: val}
				s, err := order.AnswerBytes(a)
				if other, is := answers[s]; is || err != api.OK || len(s) != 10 {
					t.Fatalf("%v is %x %v, as is %v", a, s, err, other)
				}
				if got, err := order.ParseAnswer(s); got != a || err != api.OK {
					t.Fatalf("%v is read as %v %v", a, got, err)
				}
				answers[s] = a
			}
		}
	}
}

// P20.3: any 18 bytes are an op's, and any 10 with a Done that can be an answer's, that is told as just these; any ops and answers are read as they were.
func TestBack(t *testing.T) {
	x := numbers(1)
	row := func(n int) string {
		b := make([]byte, n)
		for i := range b {
			b[i] = byte(x.below(256))
		}
		return string(b)
	}
	for range 20000 {
		s := row(18)
		o, err := order.Parse(s)
		if err != api.OK {
			t.Fatalf("%x %v", s, err)
		}
		opIs(t, o, s)
		s = row(1) + bytesOf(x.below(2)) + row(8)
		a, err := order.ParseAnswer(s)
		if err != api.OK {
			t.Fatalf("%x %v", s, err)
		}
		answerIs(t, a, s)
	}
}

// P20.2: what the ops of a run are, and answer, goes by its bytes as well: an op that was read is asked as the one that was told.
func TestAskedAgain(t *testing.T) {
	for _, c := range structures(4) {
		b := benchOf(t, "plain", c, 1)
		for _, o := range append(ops(c, 5, math.MaxUint64), ops(c, math.MaxUint64, 1)...) {
			s, _ := order.Bytes(o)
			read, err := order.Parse(s)
			if read != o || err != api.OK {
				t.Fatal(o, read, err)
			}
			_, a := b.ask(b.threads[0], read)
			told, err := order.AnswerBytes(a)
			if err != api.OK {
				t.Fatal(a, err)
			}
			answerIs(t, a, told)
		}
	}
}
