package mix_test

import (
	"math"
	"math/big"
	"slices"
	"testing"

	"revenant/api"
	"revenant/mix"
)

// The limits, as the document says them.
const (
	maxSlots   = 1<<23 - 1
	maxEpoch   = 1<<40 - 1
	maxBuckets = 64
	maxHeight  = 16
)

// mixed are keys and what each is mixed to.
var mixed = []struct{ key, word uint64 }{
	{0x0, 0x0000000000000000},
	{0x1, 0xB456BCFC34C2CB2C},
	{0x2, 0x3ABF2A20650683E7},
	{0x3, 0x0B5181C509F8D8CE},
	{0xFFFFFFFF, 0xCC71ECDA2AA8BCC6},
	{0x100000000, 0xBA3A9E160A5F1419},
	{0x100000001, 0x0AD0F115ABD5E507},
	{0x1FFFFFFFF, 0xC08C4A56F3C4443D},
	{0x200000000, 0x6B80F8591E1145C3},
	{0x200000001, 0x2C0100015F0A2277},
	{0x7FFFFFFFFFFFFFFF, 0xABB93DF0A930EDEA},
	{0x8000000000000000, 0x8F780810AF31A493},
	{0x8000000000000001, 0x6DD39475FBD3DC62},
	{0xFFFFFFFFFFFFFFFE, 0x3A8593886C55A02B},
	{0xFFFFFFFFFFFFFFFF, 0x64B5720B4B825F21},
	{0xFF51AFD7ED558CCD, 0x34248D7289D37462},
	{0xC4CEB9FE1A85EC53, 0x93351475DD625FF1},
	{0x0123456789ABCDEF, 0x87CBFBFE89022CEA},
}

// inverts are odd numbers and what times each is 1.
var inverts = []struct{ odd, by uint64 }{
	{0x1, 0x1},
	{0x3, 0xAAAAAAAAAAAAAAAB},
	{0x5, 0xCCCCCCCCCCCCCCCD},
	{0x7, 0x6DB6DB6DB6DB6DB7},
	{0xFFFFFFFF, 0xFFFFFFFEFFFFFFFF},
	{0x100000001, 0xFFFFFFFF00000001},
	{0x7FFFFFFFFFFFFFFF, 0x7FFFFFFFFFFFFFFF},
	{0x8000000000000001, 0x8000000000000001},
	{0xFFFFFFFFFFFFFFFD, 0x5555555555555555},
	{0xFFFFFFFFFFFFFFFF, 0xFFFFFFFFFFFFFFFF},
	{0xFF51AFD7ED558CCD, 0x4F74430C22A54005},
	{0xC4CEB9FE1A85EC53, 0x9CB4B2F8129337DB},
}

// numbers are numbers that look like any, always the same.
type numbers uint64

// word is the next one.
func (x *numbers) word() uint64 {
	*x = *x*6364136223846793005 + 1442695040888963407
	high := uint64(*x >> 32)
	*x = *x*6364136223846793005 + 1442695040888963407
	return high<<32 | uint64(*x>>32)
}

// words are words of many kinds, none twice: each power of two and its neighbours, one bit left out, two bits, small ones, and many like any.
func words() []uint64 {
	list := []uint64{0x0123456789ABCDEF, 0xFEDCBA9876543210, 0xAAAAAAAAAAAAAAAA, 0x5555555555555555, 0xFF51AFD7ED558CCD, 0xC4CEB9FE1A85EC53}
	for i := range 64 {
		list = append(list, 1<<i-1, 1<<i, 1<<i+1, ^uint64(1<<i), -uint64(1<<i))
		for k := range i {
			list = append(list, 1<<i|1<<k)
		}
	}
	for n := range uint64(3000) {
		list = append(list, n, ^n, n<<32, n<<48|n)
	}
	x := numbers(12)
	for range 20000 {
		list = append(list, x.word())
	}
	slices.Sort(list)
	return slices.Compact(list)
}

// whole is a word as a number that doesn't go round.
func whole(w uint64) *big.Int { return new(big.Int).SetUint64(w) }

// times is a times b, modulo 2^64, by numbers that don't go round.
func times(a, b uint64) uint64 {
	all := new(big.Int).Mul(whole(a), whole(b))
	return all.Mod(all, new(big.Int).Lsh(big.NewInt(1), 64)).Uint64()
}

// turned is a word that is turned by itself shifted down by 33, bit by bit.
func turned(w uint64) uint64 {
	n := whole(w)
	answer := new(big.Int)
	for k := range 64 {
		bit := n.Bit(k)
		if k+33 < 64 {
			bit ^= n.Bit(k + 33)
		}
		answer.SetBit(answer, k, bit)
	}
	return answer.Uint64()
}

// mixedBy is a key that is mixed by the chapter's own steps.
func mixedBy(key uint64) uint64 {
	w := turned(key)
	w = times(w, 0xFF51AFD7ED558CCD)
	w = turned(w)
	w = times(w, 0xC4CEB9FE1A85EC53)
	return turned(w)
}

// bucketOf is the bucket, of n, of a key that is mixed to w, by the chapter's own words.
func bucketOf(w uint64, n int) int {
	high := new(big.Int).Rsh(whole(w), 32)
	high.Mul(high, big.NewInt(int64(n)))
	return int(high.Rsh(high, 32).Int64())
}

func list() api.Config { return of(api.List, 0, 1) }

func hash(buckets int) api.Config { return of(api.Hash, buckets, 1) }

func skip(height int) api.Config { return of(api.Skip, 0, height) }

// others are structures that can be, and are no Hash.
func others() []api.Config {
	all := []api.Config{list(), {Kind: api.List, Slots: maxSlots, Height: 1, Limit: maxEpoch}, {Kind: api.List, Slots: 1, Height: 1, Limit: 2}}
	for height := 1; height <= maxHeight; height++ {
		all = append(all, skip(height), api.Config{Kind: api.Skip, Slots: maxSlots, Height: height, Limit: maxEpoch})
	}
	return all
}

// of is a structure of 8 slots.
func of(kind, buckets, height int) api.Config {
	return api.Config{Kind: kind, Slots: 8, Buckets: buckets, Height: height, Limit: 9}
}

// none are structures that can't be, each by one number; most of them name Buckets.
func none() []api.Config {
	all := []api.Config{{}, {Kind: api.Hash}, {Buckets: 8}, {Kind: api.Hash, Buckets: 8}}
	for _, n := range []int{math.MinInt, math.MinInt + 1, -1 << 32, -64, -2, -1, 1 << 62, math.MaxInt - 1, math.MaxInt} {
		all = append(all, of(n, 8, 1), of(n, 0, 1), hash(n), of(api.List, n, 1), of(api.Skip, n, 2), of(api.List, 0, n), of(api.Hash, 8, n), skip(n))
		all = append(all, api.Config{Kind: api.Hash, Slots: n, Buckets: 8, Height: 1, Limit: 9}, api.Config{Kind: api.Hash, Slots: 8, Buckets: 8, Height: 1, Limit: n})
	}
	for _, kind := range []int{0, 4, 5, 8, 256 + api.Hash, 1<<32 + api.Hash} {
		all = append(all, of(kind, 8, 1), of(kind, 0, 1), of(kind, 0, 3))
	}
	for _, buckets := range []int{0, maxBuckets + 1, maxBuckets + 2, 128, 257, 1 << 32, 1<<32 + 8} {
		all = append(all, hash(buckets))
	}
	// Buckets of what has none.
	for _, buckets := range []int{1, 2, 8, maxBuckets, maxBuckets + 1, 1 << 32} {
		all = append(all, of(api.List, buckets, 1), of(api.Skip, buckets, 1), of(api.Skip, buckets, 8))
	}
	for _, height := range []int{0, 2, 3, maxHeight, maxHeight + 1, 1<<32 + 1} {
		all = append(all, of(api.List, 0, height), of(api.Hash, 8, height))
	}
	for _, slots := range []int{0, maxSlots + 1, 1<<32 + 8} {
		all = append(all, api.Config{Kind: api.Hash, Slots: slots, Buckets: 8, Height: 1, Limit: 9})
	}
	for _, limit := range []int{0, 1, maxEpoch + 1, maxEpoch + 10} {
		all = append(all, api.Config{Kind: api.Hash, Slots: 8, Buckets: 8, Height: 1, Limit: limit})
	}
	return append(all, skip(0), skip(maxHeight+1))
}

// P12.1: the key 0 is mixed to 0, and others to the words that come of these steps.
func TestMix(t *testing.T) {
	for _, m := range mixed {
		if w := mix.Mix(m.key); w != m.word {
			t.Errorf("%x: %x, not %x", m.key, w, m.word)
		}
		if key := mix.Unmix(m.word); key != m.key {
			t.Errorf("%x: back to %x, not %x", m.word, key, m.key)
		}
	}
}

// P12.1: a key is mixed by the chapter's steps, of each kind of keys.
func TestMixSteps(t *testing.T) {
	for _, key := range words() {
		if w, want := mix.Mix(key), mixedBy(key); w != want {
			t.Fatalf("%x: %x, not %x", key, w, want)
		}
	}
}

// P12.1: Unmix answers the key whose Mix is the word; P12.3: each word is some key's.
func TestUnmix(t *testing.T) {
	for _, w := range words() {
		key := mix.Unmix(w)
		if got := mix.Mix(key); got != w {
			t.Fatalf("%x: %x is mixed to %x", w, key, got)
		}
		if got := mixedBy(key); got != w {
			t.Fatalf("%x: %x is mixed by the steps to %x", w, key, got)
		}
		if got := mix.Unmix(mix.Mix(w)); got != w {
			t.Fatalf("the key %x comes back as %x", w, got)
		}
	}
}

// P12.1: there and back many times over is where it began, whichever goes first.
func TestThereAndBack(t *testing.T) {
	for _, m := range mixed {
		w := m.key
		for range 500 {
			w = mix.Mix(w)
		}
		for range 1000 {
			w = mix.Unmix(w)
		}
		for range 500 {
			w = mix.Mix(w)
		}
		if w != m.key {
			t.Errorf("%x comes back as %x", m.key, w)
		}
	}
}

// P12.3: unlike keys are mixed to unlike words, and unlike words are unlike keys'.
func TestUnlike(t *testing.T) {
	list := words()
	ways := map[string]func(uint64) uint64{"Mix": mix.Mix, "Unmix": mix.Unmix}
	for name, way := range ways {
		seen := make(map[uint64]uint64)
		for _, w := range list {
			answer := way(w)
			if other, is := seen[answer]; is {
				t.Fatalf("%s: %x and %x are both %x", name, w, other, answer)
			}
			seen[answer] = w
		}
		if len(seen) != len(list) {
			t.Error(name, len(seen), len(list))
		}
	}
}

// P12.3: keys that are unlike in one bit alone are mixed to unlike words, whichever bit it is.
func TestUnlikeBit(t *testing.T) {
	for _, m := range mixed {
		for k := range 64 {
			if mix.Mix(m.key) == mix.Mix(m.key^1<<k) || mix.Unmix(m.word) == mix.Unmix(m.word^1<<k) {
				t.Errorf("%x, bit %d", m.key, k)
			}
		}
	}
}

// P12.1: Invert answers what times the odd number is 1.
func TestInvert(t *testing.T) {
	for _, i := range inverts {
		if by := mix.Invert(i.odd); by != i.by {
			t.Errorf("%x: %x, not %x", i.odd, by, i.by)
		}
		if odd := mix.Invert(i.by); odd != i.odd {
			t.Errorf("%x: %x, not %x", i.by, odd, i.odd)
		}
	}
}

// P12.1: of each kind of odd numbers its answer, times it, is 1 modulo 2^64, and its answer's answer is the number.
func TestInvertTimes(t *testing.T) {
	for _, w := range words() {
		odd := w | 1
		by := mix.Invert(odd)
		if got := times(odd, by); got != 1 {
			t.Fatalf("%x: times %x is %x", odd, by, got)
		}
		if got := mix.Invert(by); got != odd {
			t.Fatalf("%x: %x, whose own is %x", odd, by, got)
		}
	}
}

// P12.1: Invert of an even number is 0, of 0 too.
func TestInvertEven(t *testing.T) {
	for _, even := range []uint64{0, 2, 4, 6, 1 << 31, 1 << 32, 1 << 33, 1 << 63, 1<<63 - 2, 1<<63 + 2, 1<<64 - 2, 1<<64 - 4} {
		if by := mix.Invert(even); by != 0 {
			t.Errorf("%x: %x", even, by)
		}
	}
	for _, w := range words() {
		if by := mix.Invert(w &^ 1); by != 0 {
			t.Fatalf("%x: %x", w&^1, by)
		}
	}
}

// P12.2: the key 0 is in the bucket 0, of any; other keys where these steps lead.
func TestBucket(t *testing.T) {
	buckets := []int{1, 2, 3, 7, 64}
	for _, k := range []struct {
		key uint64
		in  []int
	}{
		{0, []int{0, 0, 0, 0, 0}},
		{1, []int{0, 1, 2, 4, 45}},
		{2, []int{0, 0, 0, 1, 14}},
		{3, []int{0, 0, 0, 0, 2}},
		{1<<32 - 1, []int{0, 1, 2, 5, 51}},
		{1 << 32, []int{0, 1, 2, 5, 46}},
		{1<<32 + 1, []int{0, 0, 0, 0, 2}},
		{1<<63 - 1, []int{0, 1, 2, 4, 42}},
		{1 << 63, []int{0, 1, 1, 3, 35}},
		{1<<63 + 1, []int{0, 0, 1, 3, 27}},
		{1<<64 - 2, []int{0, 0, 0, 1, 14}},
		{1<<64 - 1, []int{0, 0, 1, 2, 25}},
		{0x0123456789ABCDEF, []int{0, 1, 1, 3, 33}},
	} {
		for i, n := range buckets {
			if got := mix.Bucket(hash(n), k.key); got != k.in[i] {
				t.Errorf("%x of %d: %d, not %d", k.key, n, got, k.in[i])
			}
		}
	}
	for n := 1; n <= maxBuckets; n++ {
		if got := mix.Bucket(hash(n), 0); got != 0 {
			t.Error(n, got)
		}
	}
}

// P12.2: of each number of buckets a key is where the chapter's words say, and that is a bucket that there is.
func TestBucketSteps(t *testing.T) {
	all := words()
	for n := 1; n <= maxBuckets; n++ {
		c := hash(n)
		for i := n % 7; i < len(all); i += 7 {
			got, want := mix.Bucket(c, all[i]), bucketOf(mix.Mix(all[i]), n)
			if got != want || got < 0 || got >= n {
				t.Fatalf("%x of %d: %d, not %d", all[i], n, got, want)
			}
		}
	}
}

// P12.2: where one bucket ends and the next one begins; the 32 low bits of the mixed key play no part.
func TestBucketEnds(t *testing.T) {
	for n := uint64(1); n <= maxBuckets; n++ {
		c := hash(int(n))
		for i := range n {
			// The least number of 32 bits that times n is i times 2^32, or more; and the greatest one of the bucket.
			low := (i<<32 + n - 1) / n
			high := ((i+1)<<32+n-1)/n - 1
			for _, w := range []uint64{low << 32, low<<32 | math.MaxUint32, low<<32 | 1<<31, high << 32, high<<32 | math.MaxUint32, high<<32 | 1<<31} {
				if got := mix.Bucket(c, mix.Unmix(w)); got != int(i) {
					t.Fatalf("%x of %d: %d, not %d", w, n, got, i)
				}
			}
		}
	}
}

// P12.2: a Hash's Slots and Limit play no part, at the limits too.
func TestBucketOthers(t *testing.T) {
	for _, n := range []int{1, 2, 3, 8, 63, 64} {
		for _, m := range mixed {
			want := bucketOf(m.word, n)
			for _, slots := range []int{1, 2, 8, maxSlots - 1, maxSlots} {
				for _, limit := range []int{2, 3, maxEpoch - 1, maxEpoch} {
					c := api.Config{Kind: api.Hash, Slots: slots, Buckets: n, Height: 1, Limit: limit}
					if got := mix.Bucket(c, m.key); got != want {
						t.Fatal(c, m.key, got, want)
					}
				}
			}
		}
	}
}

// P12.2: a key's bucket is 0 of a structure that is no Hash, and of one that can't be, where it names Buckets too.
func TestBucketNone(t *testing.T) {
	for _, c := range append(others(), none()...) {
		for _, m := range mixed {
			if got := mix.Bucket(c, m.key); got != 0 {
				t.Error(c, m.key, got)
			}
		}
	}
}

// spread is what the document says of Spread of a structure that can be: each key counts at its own root.
func spread(c api.Config, keys []uint64) []int {
	switch c.Kind {
	case api.Hash:
		counts := make([]int, c.Buckets)
		for _, key := range keys {
			counts[bucketOf(mixedBy(key), c.Buckets)]++
		}
		return counts
	case api.Skip:
		counts := make([]int, c.Height)
		counts[0] = len(keys)
		return counts
	}
	return []int{len(keys)}
}

// checkSpread holds Spread against the document's words, and against Bucket of each key.
func checkSpread(t *testing.T, c api.Config, keys []uint64) {
	t.Helper()
	got := mix.Spread(c, keys...)
	if want := spread(c, keys); !slices.Equal(got, want) {
		t.Fatal(c, len(keys), got, want)
	}
	counts := make([]int, len(got))
	for _, key := range keys {
		counts[mix.Bucket(c, key)]++
	}
	if !slices.Equal(got, counts) {
		t.Fatal(c, len(keys), got, counts)
	}
}

// P12.2: Spread of no keys: zeros, one for each root; of one; and of many: as many at each root as there are.
func TestSpread(t *testing.T) {
	all := words()[:800]
	structures := others()
	for n := 1; n <= maxBuckets; n++ {
		structures = append(structures, hash(n))
	}
	for _, c := range structures {
		checkSpread(t, c, nil)
		checkSpread(t, c, []uint64{})
		checkSpread(t, c, all)
		for _, m := range mixed {
			checkSpread(t, c, []uint64{m.key})
		}
	}
}

// P12.2: a key that is told twice counts twice, and in whichever order keys are told they are where they are.
func TestSpreadTwice(t *testing.T) {
	for _, c := range []api.Config{list(), skip(1), skip(5), hash(1), hash(2), hash(7), hash(64)} {
		checkSpread(t, c, []uint64{7, 7})
		checkSpread(t, c, []uint64{0, 0, 0, 1, 0, 1<<64 - 1, 1, 1<<64 - 1, 0})
		var keys []uint64
		for i, m := range mixed {
			for range i {
				keys = append(keys, m.key)
			}
		}
		checkSpread(t, c, keys)
		there := mix.Spread(c, keys...)
		slices.Reverse(keys)
		if back := mix.Spread(c, keys...); !slices.Equal(there, back) {
			t.Error(c, there, back)
		}
	}
}

// P12.2: as many numbers as the structure has roots, and they come to how many keys were told.
func TestSpreadSum(t *testing.T) {
	x := numbers(5)
	for n := 1; n <= maxBuckets; n++ {
		for _, k := range []int{0, 1, 2, 100, 1000} {
			var keys []uint64
			for range k {
				keys = append(keys, x.word())
			}
			got := mix.Spread(hash(n), keys...)
			sum := 0
			for _, count := range got {
				sum += count
			}
			if len(got) != n || sum != k {
				t.Error(n, k, got)
			}
		}
	}
	if got := mix.Spread(list(), 1, 2, 3); !slices.Equal(got, []int{3}) {
		t.Error("a list", got)
	}
	if got := mix.Spread(skip(3), 1, 2, 3, 4); !slices.Equal(got, []int{4, 0, 0}) {
		t.Error("a skip list", got)
	}
	if got := mix.Spread(hash(3), 0, 1, 2, 3, 1<<63); !slices.Equal(got, []int{3, 1, 1}) {
		t.Error("a hash", got)
	}
}

// P12.2: of what can't be nothing is answered, whatever keys are told.
func TestSpreadNone(t *testing.T) {
	for _, c := range none() {
		for _, keys := range [][]uint64{nil, {}, {0}, {1}, {1, 2, 3}, {1<<64 - 1, 1 << 63}} {
			if got := mix.Spread(c, keys...); len(got) != 0 {
				t.Error(c, keys, got)
			}
		}
	}
}

// Rule 3: the row of keys is not changed, its spare room neither, and not kept.
func TestRowOfKeys(t *testing.T) {
	for _, c := range []api.Config{list(), skip(4), hash(1), hash(8), hash(64), {}} {
		row := words()[:40]
		// Sorted either way, and twice over, it would be another row.
		slices.Reverse(row[:20])
		copy(row[30:], row[:10])
		keys := row[:35]
		before := slices.Clone(row)
		got := mix.Spread(c, keys...)
		if !slices.Equal(row, before) {
			t.Error("changed", c)
		}
		want := slices.Clone(got)
		clear(row)
		if !slices.Equal(got, want) {
			t.Error("the answer changed with the keys", c, got, want)
		}
		if again := mix.Spread(c, before[:35]...); !slices.Equal(again, want) {
			t.Error("the keys were kept", c, again, want)
		}
	}
}

// Rule 3: what Spread answers is new memory each time: changed behind the call it changes no other answer.
func TestRowAnswered(t *testing.T) {
	keys := words()[:50]
	for _, c := range []api.Config{list(), skip(4), hash(1), hash(8), hash(64)} {
		for _, told := range [][]uint64{nil, keys} {
			a, b := mix.Spread(c, told...), mix.Spread(c, told...)
			want := spread(c, told)
			for i := range a {
				a[i] = -77
			}
			_ = append(a, 1, 2, 3)
			if !slices.Equal(b, want) {
				t.Error("two answers share", c, b, want)
			}
			if again := mix.Spread(c, told...); !slices.Equal(again, want) {
				t.Error("the answer was kept", c, again, want)
			}
		}
	}
}
