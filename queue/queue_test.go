package queue_test

import (
	"math"
	"slices"
	"testing"

	"revenant/api"
	"revenant/queue"
)

// ends are numbers as a Slot, a Retired and an Id: 0, below 0 and the ends of int among them; some are alike in their low bits.
var ends = []int{0, 1, 2, 3, 5, -1, -2, 255, 256, 257, api.MaxSlots, 1 << 32, 1<<32 + 1, -1 << 32, math.MaxInt - 1, math.MaxInt, math.MinInt, math.MinInt + 1}

// sizes are numbers of entries about the powers of two, and the Room that is the least for each.
var sizes = []struct{ n, room int }{
	{0, 4}, {1, 4}, {2, 4}, {3, 4}, {4, 4}, {5, 8}, {7, 8}, {8, 8}, {9, 16}, {15, 16}, {16, 16}, {17, 32}, {31, 32}, {32, 32}, {33, 64},
	{63, 64}, {64, 64}, {65, 128}, {127, 128}, {128, 128}, {129, 256}, {255, 256}, {256, 256}, {257, 512}, {1000, 1024}, {1025, 2048}, {65536, 65536}, {65537, 131072},
}

// numbers are numbers that look like any, always the same.
type numbers uint64

// below is the next one, below n.
func (x *numbers) below(n int) int {
	*x = *x*6364136223846793005 + 1442695040888963407
	return int(*x>>33) % n
}

// entry is any entry; few slots, so that one stands there twice often.
func (x *numbers) entry() queue.Entry {
	return queue.Entry{Slot: ends[x.below(len(ends))], Retired: ends[x.below(len(ends))], Id: x.below(1 << 30)}
}

// entries are n of them.
func (x *numbers) entries(n int) []queue.Entry {
	var list []queue.Entry
	for range n {
		list = append(list, x.entry())
	}
	return list
}

// row is n entries, no two alike, from a number on.
func row(from, n int) []queue.Entry {
	var list []queue.Entry
	for i := range n {
		list = append(list, queue.Entry{Slot: from + i, Retired: from + i + 1, Id: -from - i})
	}
	return list
}

// model is what the document says of a queue: its entries in order, and for how many there is room.
type model struct {
	list []queue.Entry
	room int
}

// newModel is one of these: its room is the least.
func newModel(list ...queue.Entry) *model {
	m := &model{list: slices.Clone(list), room: 4}
	for m.room < len(list) {
		m.room *= 2
	}
	return m
}

// push pushes them one by one, each of which grows what is full.
func (m *model) push(list ...queue.Entry) {
	for _, e := range list {
		if len(m.list) == m.room {
			m.room *= 2
		}
		m.list = append(m.list, e)
	}
}

func (m *model) head() (queue.Entry, bool) {
	if len(m.list) == 0 {
		return queue.Entry{}, false
	}
	return m.list[0], true
}

func (m *model) pop() (queue.Entry, bool) {
	e, ok := m.head()
	if ok {
		m.list = m.list[1:]
	}
	return e, ok
}

func (m *model) find(slot int) int {
	for i, e := range m.list {
		if e.Slot == slot {
			return i
		}
	}
	return -1
}

// check holds all that a queue tells against the model, twice, since asking changes nothing.
func check(t *testing.T, q *queue.Queue, m *model) {
	t.Helper()
	for range 2 {
		if q.Len() != len(m.list) || q.Room() != m.room {
			t.Fatal("Len, Room", q.Len(), len(m.list), q.Room(), m.room)
		}
		if list := q.List(); !slices.Equal(list, m.list) {
			t.Fatal("List", list, m.list)
		}
		e, ok := q.Head()
		if want, is := m.head(); e != want || ok != is {
			t.Fatal("Head", e, ok, want, is)
		}
		for _, slot := range ends {
			if got, want := q.Find(slot), m.find(slot); got != want {
				t.Fatal("Find", slot, got, want)
			}
		}
	}
}

// push pushes into both.
func push(t *testing.T, q *queue.Queue, m *model, list ...queue.Entry) {
	t.Helper()
	if err := q.Push(list...); err != api.OK {
		t.Fatal("Push", len(list), err)
	}
	m.push(list...)
}

// pop pops of both.
func pop(t *testing.T, q *queue.Queue, m *model) {
	t.Helper()
	e, ok := q.Pop()
	if want, is := m.pop(); e != want || ok != is {
		t.Fatal("Pop", e, ok, want, is)
	}
}

// turned is a queue of these whose first one stands as far on in the ring as so many that came and went ahead of it.
func turned(went int, list ...queue.Entry) *queue.Queue {
	q := queue.New()
	for i := range went {
		q.Push(queue.Entry{Slot: -9, Retired: i, Id: -i})
		q.Pop()
	}
	q.Push(list...)
	return q
}

// The example: four are pushed: Room is 4; a fifth one: 8.
func TestExample(t *testing.T) {
	q := queue.New()
	for i := range 4 {
		if err := q.Push(queue.Entry{Slot: i + 1, Retired: 2, Id: 3}); err != api.OK || q.Room() != 4 || q.Len() != i+1 {
			t.Error(i, err, q.Room(), q.Len())
		}
	}
	if q.Push(queue.Entry{Slot: 5}) != api.OK || q.Room() != 8 || q.Len() != 5 {
		t.Error(q.Room(), q.Len())
	}
	if e, ok := q.Pop(); e != (queue.Entry{Slot: 1, Retired: 2, Id: 3}) || !ok || q.Len() != 4 || q.Room() != 8 {
		t.Error(e, ok, q.Len(), q.Room())
	}
}

// P11.1, P11.2: New of none, one and many: these, in order, and the least Room.
func TestNew(t *testing.T) {
	x := numbers(3)
	for _, size := range sizes {
		for _, list := range [][]queue.Entry{row(1, size.n), row(-size.n/2, size.n), x.entries(size.n)} {
			q := queue.New(list...)
			check(t, q, newModel(list...))
			if q.Room() != size.room || q.Len() != size.n {
				t.Error(size, q.Room(), q.Len())
			}
		}
	}
	for _, q := range []*queue.Queue{queue.New(), queue.New(nil...), queue.New([]queue.Entry{}...), queue.New(row(1, 9)[:0]...)} {
		check(t, q, newModel())
	}
}

// P11.1: each New is another queue.
func TestNewOnes(t *testing.T) {
	list := row(1, 3)
	a, b := queue.New(list...), queue.New(list...)
	if a == b {
		t.Fatal("two of New are one")
	}
	a.Pop()
	a.Push(row(50, 6)...)
	check(t, b, newModel(list...))
}

// P11.1: Head is the one that came first, as often as it is asked; Pop answers it once.
func TestHead(t *testing.T) {
	list := row(7, 9)
	q := queue.New(list...)
	for i, want := range list {
		for range 3 {
			if e, ok := q.Head(); e != want || !ok || q.Len() != 9-i {
				t.Fatal(i, e, ok, want, q.Len())
			}
		}
		if e, ok := q.Pop(); e != want || !ok || q.Len() != 8-i {
			t.Fatal(i, e, ok, want, q.Len())
		}
	}
}

// P11.1: Head and Pop of an empty queue answer the zero entry and false, of one that never held any and of one that did, and change nothing.
func TestEmpty(t *testing.T) {
	for _, size := range sizes[:20] {
		for went := range 9 {
			q := turned(went, row(3, size.n)...)
			for range size.n {
				q.Pop()
			}
			for range 3 {
				if e, ok := q.Head(); e != (queue.Entry{}) || ok {
					t.Fatal("Head", size, went, e, ok)
				}
				if e, ok := q.Pop(); e != (queue.Entry{}) || ok {
					t.Fatal("Pop", size, went, e, ok)
				}
			}
			m := &model{room: size.room}
			check(t, q, m)
			push(t, q, m, row(40, 3)...)
			check(t, q, m)
		}
	}
}

// P11.1: Find answers the place of the first one of a slot, counted from the head on, whatever else the entry holds.
func TestFind(t *testing.T) {
	for went := range 9 {
		q := turned(went, queue.Entry{Slot: 6, Retired: 5, Id: 4}, queue.Entry{Slot: 4, Retired: 6, Id: 5}, queue.Entry{Slot: 6}, queue.Entry{Slot: 5}, queue.Entry{Slot: 4})
		for k, want := range [][]int{{1, -1, 3, 0}, {0, -1, 2, 1}, {2, -1, 1, 0}, {1, -1, 0, -1}, {0, -1, -1, -1}, {-1, -1, -1, -1}} {
			for i, slot := range []int{4, 0, 5, 6} {
				if got := q.Find(slot); got != want[i] {
					t.Error(went, k, slot, got, want[i])
				}
			}
			q.Pop()
		}
	}
}

// P11.1: Find goes by the whole number: of a slot of 0, below 0 and the ends of int, there or not.
func TestFindEnds(t *testing.T) {
	for i, slot := range ends {
		for went := range 5 {
			q := turned(went, queue.Entry{Slot: 77, Retired: slot, Id: slot})
			if got := q.Find(slot); got != -1 {
				t.Error("not there", slot, got)
			}
			q.Push(queue.Entry{Slot: slot, Retired: i}, queue.Entry{Slot: slot})
			for _, other := range ends {
				want := -1
				if other == slot {
					want = 1
				}
				if got := q.Find(other); got != want {
					t.Error(slot, other, got, want)
				}
			}
		}
	}
}

// P11.1: what went is not found any more, though its memory may still hold it.
func TestFindGone(t *testing.T) {
	q := queue.New(row(1, 8)...)
	for i := range 8 {
		if got := q.Find(i + 1); got != 0 {
			t.Error(i, got)
		}
		q.Pop()
		if got := q.Find(i + 1); got != -1 {
			t.Error(i, got)
		}
	}
	q.Push(queue.Entry{Slot: 50})
	for i := range 9 {
		if got := q.Find(i); got != -1 {
			t.Error(i, got)
		}
	}
	if got := q.Find(50); got != 0 {
		t.Error(got)
	}
}

// P11.1, P11.3: entries of 0, below 0 and the ends of int come out as they went in.
func TestEnds(t *testing.T) {
	var list []queue.Entry
	for i := range ends {
		for k := range ends {
			list = append(list, queue.Entry{Slot: ends[i], Retired: ends[k], Id: ends[(i+k+5)%len(ends)]})
		}
	}
	for went := range 5 {
		q := turned(went, list...)
		if !slices.Equal(q.List(), list) {
			t.Fatal(went, q.List())
		}
		for i, want := range list {
			if e, ok := q.Pop(); e != want || !ok {
				t.Fatal(went, i, e, want, ok)
			}
		}
		if _, ok := q.Pop(); ok {
			t.Error(went)
		}
	}
}

// P11.1: the zero entry is one as any: it is there, counted, found, and popped with true.
func TestZeroEntry(t *testing.T) {
	q, m := queue.New(queue.Entry{}), newModel(queue.Entry{})
	check(t, q, m)
	push(t, q, m, queue.Entry{}, queue.Entry{})
	check(t, q, m)
	for range 4 {
		pop(t, q, m)
		check(t, q, m)
	}
}

// P11.1: Push of nothing is OK and changes nothing, of a full queue too.
func TestPushNothing(t *testing.T) {
	for _, size := range sizes[:16] {
		q, m := queue.New(row(2, size.n)...), newModel(row(2, size.n)...)
		push(t, q, m)
		push(t, q, m, nil...)
		push(t, q, m, []queue.Entry{}...)
		check(t, q, m)
	}
}

// P11.1, P11.2: Push of several at once stands behind all, in order, as those one by one do, wherever the ring's first one is.
func TestPushSeveral(t *testing.T) {
	for went := range 9 {
		for had := range 18 {
			for n := range 40 {
				q, m := turned(went, row(1, had)...), newModel(row(1, had)...)
				push(t, q, m, row(100, n)...)
				check(t, q, m)
				one := turned(went, row(1, had)...)
				for _, e := range row(100, n) {
					one.Push(e)
				}
				check(t, one, m)
			}
		}
	}
}

// P11.2: Room is the least power of two, from 4 on, that was ever needed: it grows to twice as much by the one that finds no room, and never less.
func TestRoom(t *testing.T) {
	q := queue.New()
	room := 4
	for n := range 5000 {
		if n == room {
			room *= 2
		}
		q.Push(queue.Entry{Slot: n})
		if q.Room() != room || q.Room() < q.Len() || q.Len() != n+1 {
			t.Fatal(n, q.Room(), room, q.Len())
		}
	}
	for n := range 5001 {
		q.Pop()
		if q.Room() != room || q.Len() != max(4999-n, 0) {
			t.Fatal(n, q.Room(), room, q.Len())
		}
	}
	for n := range room {
		q.Push(queue.Entry{Slot: n})
		if q.Room() != room {
			t.Fatal(n, q.Room(), room)
		}
	}
	if q.Push(queue.Entry{}); q.Room() != 2*room || q.Len() != room+1 {
		t.Error(q.Room(), room, q.Len())
	}
}

// P11.2: what goes as fast as it comes takes no more room, however long; of each number of entries that stay.
func TestAround(t *testing.T) {
	for _, size := range sizes[:16] {
		q, m := queue.New(row(1, size.n)...), newModel(row(1, size.n)...)
		for i := range 600 {
			full := size.n == size.room
			if full {
				pop(t, q, m)
			}
			push(t, q, m, queue.Entry{Slot: 1000 + i, Retired: i, Id: -i})
			if !full {
				pop(t, q, m)
			}
			if q.Room() != max(size.room, 4) || q.Len() != size.n {
				t.Fatal(size, i, q.Room(), q.Len())
			}
		}
		check(t, q, m)
	}
}

// P11.2: many more at once than there is room for: twice as much, as often as it takes.
func TestRoomSeveral(t *testing.T) {
	for _, size := range sizes {
		q := queue.New()
		q.Push(row(1, size.n)...)
		if q.Room() != size.room || q.Len() != size.n {
			t.Error(size, q.Room(), q.Len())
		}
		for range size.n {
			q.Pop()
		}
		q.Push(row(1, size.room)...)
		if q.Room() != size.room {
			t.Error(size, q.Room())
		}
		q.Push(row(1, size.room+1)...)
		if q.Room() != 4*size.room {
			t.Error(size, q.Room())
		}
	}
}

// P11.3: what is pushed is popped in that order, each once, wherever the first one stands when the ring grows.
func TestGrow(t *testing.T) {
	for _, had := range []int{4, 8, 16, 32} {
		for went := range 2*had + 1 {
			q := queue.New(row(1, had)...)
			for i := range went {
				q.Pop()
				q.Push(queue.Entry{Slot: 1000 + i})
			}
			m := &model{list: q.List(), room: had}
			push(t, q, m, row(2000, 1)...)
			check(t, q, m)
			push(t, q, m, row(3000, had)...)
			check(t, q, m)
			for range len(m.list) + 1 {
				pop(t, q, m)
			}
			check(t, q, m)
		}
	}
}

// P11.3: queues that are emptied and filled again, more each time, go on in order.
func TestFilledAgain(t *testing.T) {
	q, m := queue.New(), newModel()
	next := 1
	for n := range 70 {
		for range 3 {
			push(t, q, m, row(next, n)...)
			next += n
			check(t, q, m)
			for range n {
				pop(t, q, m)
			}
			check(t, q, m)
		}
	}
	for want := range 100000 {
		q.Push(queue.Entry{Slot: want})
		if e, ok := q.Pop(); e.Slot != want || !ok {
			t.Fatal(want, e, ok)
		}
	}
}

// P11.1 to P11.3: in many orders each answer is that of a plain row.
func TestMany(t *testing.T) {
	for seed := range 120 {
		x := numbers(seed)
		first := x.entries(x.below(12))
		q, m := queue.New(first...), newModel(first...)
		for range 250 {
			step(t, &x, q, m)
			check(t, q, m)
		}
	}
}

// step is any one of the calls that change a queue; some stretches push more, and others pop more.
func step(t *testing.T, x *numbers, q *queue.Queue, m *model) {
	t.Helper()
	switch x.below(9) {
	case 0:
		push(t, q, m, x.entries(x.below(7))...)
	case 1, 2, 3:
		push(t, q, m, x.entry())
	case 4:
		for range x.below(9) {
			pop(t, q, m)
		}
	default:
		pop(t, q, m)
	}
}

// P11.1: Same goes by the entries in order alone: not by how they came there, nor by Room.
func TestSame(t *testing.T) {
	for _, size := range sizes[:18] {
		list := row(5, size.n)
		var all []*queue.Queue
		for went := range 7 {
			wide := turned(went, row(200, 40)...)
			for range 40 {
				wide.Pop()
			}
			for _, e := range list {
				wide.Push(e)
			}
			all = append(all, turned(went, list...), wide)
		}
		for i, a := range all {
			for k, b := range all {
				if !queue.Same(a, b) {
					t.Fatal(size, i, k)
				}
			}
			check(t, a, &model{list: list, room: a.Room()})
		}
		if all[0].Room() == all[1].Room() && size.n < 33 {
			t.Error("the rooms are alike", size)
		}
	}
}

// P11.1: Same is false of another number of entries, of another order, and of one field of one entry that is another, whichever it is.
func TestNotSame(t *testing.T) {
	list := row(5, 6)
	others := [][]queue.Entry{nil, list[:1], list[:5], list[1:], row(5, 7), append(row(4, 1), list...), {list[1], list[0], list[2], list[3], list[4], list[5]}}
	for i := range list {
		for _, change := range []queue.Entry{{Slot: 1}, {Retired: 1}, {Id: 1}, {Slot: -1}, {Retired: 1 << 32}, {Id: math.MinInt}, {Slot: 1, Id: -1}, {Retired: 256}} {
			other := slices.Clone(list)
			other[i].Slot += change.Slot
			other[i].Retired += change.Retired
			other[i].Id += change.Id
			others = append(others, other)
		}
	}
	for went := range 5 {
		a := turned(went, list...)
		for i, other := range others {
			b := queue.New(other...)
			if queue.Same(a, b) || queue.Same(b, a) {
				t.Error(went, i, other)
			}
			check(t, b, newModel(other...))
		}
		if !queue.Same(a, a) || !queue.Same(a, queue.New(list...)) {
			t.Error(went)
		}
	}
}

// P11.1: what was popped plays no part in Same.
func TestSameGone(t *testing.T) {
	a, b := queue.New(row(1, 4)...), queue.New(row(11, 4)...)
	for range 4 {
		if queue.Same(a, b) {
			t.Error(a.List(), b.List())
		}
		a.Pop()
		b.Pop()
	}
	if !queue.Same(a, b) || !queue.Same(a, queue.New()) {
		t.Error(a.List(), b.List())
	}
	a.Push(queue.Entry{Slot: 3})
	if queue.Same(a, b) || queue.Same(b, a) {
		t.Error(a.List(), b.List())
	}
	b.Push(queue.Entry{Slot: 3})
	if !queue.Same(a, b) {
		t.Error(a.List(), b.List())
	}
}

// P11.1: nil is the same as nil alone, not as an empty queue.
func TestSameNil(t *testing.T) {
	empty := queue.New()
	went := queue.New(row(1, 5)...)
	for range 5 {
		went.Pop()
	}
	for _, q := range []*queue.Queue{empty, went, queue.New(row(1, 1)...), queue.New(queue.Entry{}), queue.New(row(1, 9)...)} {
		if queue.Same(nil, q) || queue.Same(q, nil) {
			t.Error(q.List())
		}
	}
	if !queue.Same(nil, nil) || !queue.Same(empty, went) || !queue.Same(empty, queue.New()) || !queue.Same(empty, empty) {
		t.Error("nil with nil, empty with empty")
	}
}

// P11.1, P11.2: of nil nothing is done, and the zero values are answered, but for -1 and ErrNil.
func TestNil(t *testing.T) {
	var q *queue.Queue
	for range 2 {
		for _, list := range [][]queue.Entry{nil, {}, row(1, 1), row(1, 5)} {
			if err := q.Push(list...); err != api.ErrNil {
				t.Error(list, err)
			}
		}
		if e, ok := q.Head(); e != (queue.Entry{}) || ok {
			t.Error("Head", e, ok)
		}
		if e, ok := q.Pop(); e != (queue.Entry{}) || ok {
			t.Error("Pop", e, ok)
		}
		if q.Len() != 0 || len(q.List()) != 0 || q.Room() != 0 {
			t.Error(q.Len(), q.List(), q.Room())
		}
		for _, slot := range ends {
			if got := q.Find(slot); got != -1 {
				t.Error("Find", slot, got)
			}
		}
	}
}

// P1: no call panics on a queue that no call made.
func TestZero(t *testing.T) {
	var q queue.Queue
	if e, ok := q.Head(); e != (queue.Entry{}) || ok {
		t.Error("Head", e, ok)
	}
	if e, ok := q.Pop(); e != (queue.Entry{}) || ok {
		t.Error("Pop", e, ok)
	}
	q.Len()
	q.List()
	q.Find(0)
	q.Room()
	queue.Same(&q, &q)
	q.Push()
	q.Push(row(1, 5)...)
	for range 7 {
		q.Head()
		q.Pop()
	}
}

// Rule 3: the list that was handed to New is not kept and not changed, its spare room neither.
func TestListOfNew(t *testing.T) {
	for _, n := range []int{1, 3, 4, 5, 8, 20} {
		for spare := range 3 {
			list := row(1, n+spare)
			q := queue.New(list[:n]...)
			for range n / 2 {
				q.Push(queue.Entry{Slot: 90})
				q.Pop()
			}
			if !slices.Equal(list, row(1, n+spare)) {
				t.Error("changed", n, spare, list)
			}
			q = queue.New(list[:n]...)
			clear(list)
			check(t, q, newModel(row(1, n)...))
		}
	}
}

// Rule 3: the list that was handed to Push is not kept and not changed, its spare room neither.
func TestListOfPush(t *testing.T) {
	for had := range 9 {
		for _, n := range []int{1, 3, 4, 5, 8, 20} {
			list := row(50, n+3)
			q, m := turned(had, row(1, had)...), newModel(row(1, had)...)
			push(t, q, m, list[:n]...)
			push(t, q, m, queue.Entry{Slot: 90})
			pop(t, q, m)
			if !slices.Equal(list, row(50, n+3)) {
				t.Error("changed", had, n, list)
			}
			clear(list)
			check(t, q, m)
		}
	}
}

// Rule 3: what List answers is new memory: neither is the queue changed by it nor it by the queue, and no two share any.
func TestListAnswered(t *testing.T) {
	for _, n := range []int{1, 3, 4, 5, 8, 20} {
		for went := range 5 {
			q, m := turned(went, row(1, n)...), newModel(row(1, n)...)
			a, b := q.List(), q.List()
			q.Pop()
			q.Push(row(70, 1)...)
			if !slices.Equal(a, row(1, n)) || !slices.Equal(b, row(1, n)) {
				t.Error("changed by the queue", n, went, a, b)
			}
			clear(a)
			if !slices.Equal(b, row(1, n)) {
				t.Error("two lists share", n, went, b)
			}
			q = turned(went, row(1, n)...)
			list := q.List()
			clear(list)
			_ = append(list, row(900, 5)...)
			check(t, q, m)
		}
	}
}

// P11.1: a queue's own list, pushed into it again, stands there twice.
func TestPushOwn(t *testing.T) {
	q, m := queue.New(row(1, 4)...), newModel(row(1, 4)...)
	for range 3 {
		push(t, q, m, q.List()...)
		check(t, q, m)
	}
	if q.Len() != 32 || q.Room() != 32 {
		t.Error(q.Len(), q.Room())
	}
}
