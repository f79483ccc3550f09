package buf

import (
	"math"
	"slices"
	"testing"

	"deadlatch/api"
)

func TestNew(t *testing.T) { // 5.1
	for room := -300; room <= 300; room++ {
		b, e := New(room)
		if room < 1 || room > 16 {
			if e != api.ErrArg || b != (Buf{}) {
				t.Errorf("New(%d) = %v, %d", room, b, e)
			}
			continue
		}
		if e != api.OK {
			t.Errorf("New(%d) = %d", room, e)
		}
		is(t, b, told{room: room})
	}
	for _, room := range []int{math.MinInt, math.MaxInt, math.MinInt32, math.MaxInt32, 1 << 32, 1<<32 + 1, 1<<32 + 16, -1 << 32, 1<<16 + 2} {
		if b, e := New(room); e != api.ErrArg || b != (Buf{}) {
			t.Errorf("New(%d) = %v, %d", room, b, e)
		}
	}
}

func TestZeroBuf(t *testing.T) { // 5.1, 5.2
	refused, _ := New(17)
	for _, b := range []Buf{{}, refused} {
		is(t, b, told{})
		if !b.Full() {
			t.Errorf("the zero Buf isn't full")
		}
		if c, ok := b.Put(api.Entry{Addr: 1, Value: 2}); c != b || ok {
			t.Errorf("Put = %v, %v", c, ok)
		}
		if x, c, ok := b.Pop(); x != (api.Entry{}) || c != b || ok {
			t.Errorf("Pop = %v, %v, %v", x, c, ok)
		}
		for _, mem := range memories() {
			after, c := b.Drain(mem)
			if !slices.Equal(after, mem) {
				t.Errorf("Drain(%v) = %v", mem, after)
			}
			is(t, c, told{})
		}
	}
}

// Each room is filled from each place of the ring on, and held against the list at each number of entries.
func TestPutTillFull(t *testing.T) { // 5.1
	for room := 1; room <= 16; room++ {
		for by := range 18 {
			b, m := turned(t, room, by), told{room: room}
			is(t, b, m)
			for n, x := range numbered(by, room) {
				if b.Full() {
					t.Fatalf("full with %d entries in a room of %d", n, room)
				}
				m, _ = m.put(x)
				b = puts(t, b, x)
				is(t, b, m)
			}
			if !b.Full() {
				t.Errorf("not full with all the entries of a room of %d", room)
			}
		}
	}
}

func TestPutIntoAFullBuffer(t *testing.T) { // 5.1
	for room := 1; room <= 16; room++ {
		for by := range 18 {
			l := numbered(by, room)
			b := puts(t, turned(t, room, by), l...)
			for _, x := range []api.Entry{{}, {Addr: 3, Value: 77}, l[0], {Addr: -1, Value: math.MaxUint32}} {
				c, ok := b.Put(x)
				if c != b || ok {
					t.Errorf("Put(%v) = %v, %v, in a full room of %d", x, c, ok, room)
				}
				is(t, c, told{room, l})
			}
		}
	}
}

// There is room for one more again once one was taken.
func TestPutWithRoomForOneMore(t *testing.T) { // 5.1
	for room := 1; room <= 16; room++ {
		l := numbered(0, room+1)
		b := puts(t, of(t, room), l[:room]...)
		_, b, _ = b.Pop()
		is(t, b, told{room, l[1:room]})
		b = puts(t, b, l[room])
		is(t, b, told{room, l[1:]})
		if _, ok := b.Put(api.Entry{}); ok {
			t.Errorf("one too many in a room of %d", room)
		}
	}
}

// Entries are put as they are, whatever their addresses and values.
func TestPutOfAnything(t *testing.T) { // 5.1
	for _, addr := range addrs {
		for _, v := range []uint32{0, 1, 1 << 31, math.MaxUint32} {
			x := api.Entry{Addr: addr, Value: v}
			is(t, puts(t, of(t, 1), x), told{1, []api.Entry{x}})
			is(t, puts(t, of(t, 3), x, api.Entry{}, x), told{3, []api.Entry{x, {}, x}})
		}
	}
}

func TestEntriesAreNewMemory(t *testing.T) { // 5.1, and rule 4
	for n := range 5 {
		for by := range 18 {
			want := numbered(by, n)
			b := puts(t, turned(t, 4, by), want...)
			first, second := b.Entries(), b.Entries()
			first = first[:cap(first)]
			for at := range first {
				first[at] = api.Entry{Addr: 1, Value: 99}
			}
			if !slices.Equal(second, want) {
				t.Errorf("two lists of entries share memory: %v", second)
			}
			is(t, b, told{4, want})
		}
	}
}

func finds(t *testing.T, b Buf, addr int, want uint32) {
	t.Helper()
	if v, ok := b.Find(addr); v != want || !ok {
		t.Errorf("Find(%d) = %d, %v; want %d, true", addr, v, ok, want)
	}
}

func findsNone(t *testing.T, b Buf, l ...int) {
	t.Helper()
	for _, addr := range l {
		if v, ok := b.Find(addr); v != 0 || ok {
			t.Errorf("Find(%d) = %d, %v", addr, v, ok)
		}
	}
}

func TestFindByHand(t *testing.T) { // 5.2
	b := of(t, 4)
	findsNone(t, b, addrs...)
	b = puts(t, b, api.Entry{Addr: 3, Value: 7})
	finds(t, b, 3, 7)
	findsNone(t, b, 0, 2, 4, -3, 7, 1<<32+3)
	b = puts(t, b, api.Entry{Addr: 3, Value: 8}, api.Entry{Addr: -5, Value: 6})
	finds(t, b, 3, 8)
	finds(t, b, -5, 6)
	findsNone(t, b, 0, 5, -3, -6, math.MinInt, math.MaxInt)
	b = puts(t, b, api.Entry{Addr: 3})
	finds(t, b, 3, 0)
	if x, _, ok := b.Pop(); x != (api.Entry{Addr: 3, Value: 7}) || !ok {
		t.Errorf("Pop = %v, %v", x, ok)
	}
}

// What was taken isn't found, though its place in the ring is still there.
func TestFindBehindPop(t *testing.T) { // 5.2
	for by := range 18 {
		b := puts(t, turned(t, 3, by), api.Entry{Addr: 20, Value: 1}, api.Entry{Addr: 21, Value: 2}, api.Entry{Addr: 20, Value: 3})
		finds(t, b, 20, 3)
		_, b, _ = b.Pop()
		finds(t, b, 20, 3)
		finds(t, b, 21, 2)
		_, b, _ = b.Pop()
		finds(t, b, 20, 3)
		findsNone(t, b, 21)
		_, b, _ = b.Pop()
		findsNone(t, b, 20, 21, 0)
	}
}

// Of several of one address the youngest one is found, wherever in the ring they stand.
func TestFindOfSeveral(t *testing.T) { // 5.2
	for _, addr := range []int{0, 5, -1, math.MinInt, math.MaxInt} {
		for by := range 18 {
			b := turned(t, 16, by)
			for n := range uint32(16) {
				b = puts(t, b, api.Entry{Addr: addr, Value: n + 50})
				finds(t, b, addr, n+50)
				findsNone(t, b, 7, -7)
			}
		}
	}
}

func TestPopOfNothing(t *testing.T) { // 5.2
	for room := 1; room <= 16; room++ {
		for by := range 18 {
			b := turned(t, room, by)
			if x, c, ok := b.Pop(); x != (api.Entry{}) || c != b || ok {
				t.Errorf("Pop = %v, %v, %v", x, c, ok)
			}
			_, c, _ := b.Pop()
			is(t, c, told{room: room})
			x := api.Entry{Addr: 4, Value: 5}
			is(t, puts(t, c, x), told{room, []api.Entry{x}})
		}
	}
}

func TestPopTillThereIsNone(t *testing.T) { // 5.2
	for room := 1; room <= 16; room++ {
		for by := range 18 {
			l := numbered(by, room)
			b := puts(t, turned(t, room, by), l...)
			for n, want := range l {
				x, c, ok := b.Pop()
				if x != want || !ok {
					t.Errorf("Pop = %v, %v; want %v, true", x, ok, want)
				}
				is(t, c, told{room, l[n+1:]})
				b = c
			}
			if x, _, ok := b.Pop(); x != (api.Entry{}) || ok {
				t.Errorf("Pop = %v, %v, of none", x, ok)
			}
		}
	}
}

// No more is kept than is needed: of what was taken, or drained, nothing is left in the ring.
func TestWhatWasTakenIsNotKept(t *testing.T) {
	b := puts(t, of(t, 16), numbered(0, 16)...)
	if _, c := b.Drain(nil); c.ring != (Buf{}).ring {
		t.Errorf("Drain keeps entries: %v", c.ring)
	}
	for range 16 {
		_, b, _ = b.Pop()
	}
	if b.ring != (Buf{}).ring {
		t.Errorf("Pop keeps entries: %v", b.ring)
	}
}

func drains(t *testing.T, b Buf, mem, want []uint32) {
	t.Helper()
	after, rest := b.Drain(mem)
	if !slices.Equal(after, want) {
		t.Errorf("Drain(%v) = %v; want %v", mem, after, want)
	}
	is(t, rest, told{room: b.room})
}

func TestDrainByHand(t *testing.T) { // 5.2
	b := of(t, 6)
	drains(t, b, nil, nil)
	drains(t, b, []uint32{}, nil)
	drains(t, b, []uint32{4, 5}, []uint32{4, 5})
	b = puts(t, b, api.Entry{Addr: 1, Value: 7}, api.Entry{Addr: 0, Value: 9}, api.Entry{Addr: 1, Value: 8})
	drains(t, b, []uint32{4, 5, 6}, []uint32{9, 8, 6})
	drains(t, b, []uint32{4}, []uint32{9})
	drains(t, b, nil, nil)
	b = puts(t, b, api.Entry{Addr: 2, Value: 1}, api.Entry{Addr: -1, Value: 2}, api.Entry{Addr: 3, Value: 3})
	drains(t, b, []uint32{4, 5, 6}, []uint32{9, 8, 1})
	drains(t, b, []uint32{4, 5, 6, 7}, []uint32{9, 8, 1, 3})
}

// What memory hasn't is left out, and nothing else is touched for it.
func TestDrainOfStrangeAddresses(t *testing.T) { // 5.2
	for _, addr := range []int{4, 5, api.MaxMem, -1, -4, -5, 1 << 32, 1<<32 + 1, -1 << 32, math.MaxInt, math.MinInt, math.MinInt + 1} {
		b := puts(t, of(t, 3), api.Entry{Addr: addr, Value: 55})
		drains(t, b, nil, nil)
		drains(t, b, []uint32{1, 2, 3, 4}, []uint32{1, 2, 3, 4})
		b = puts(t, b, api.Entry{Addr: 2, Value: 66}, api.Entry{Addr: addr, Value: 77})
		drains(t, b, []uint32{1, 2, 3, 4}, []uint32{1, 2, 66, 4})
	}
}

func TestDrainFromEachPlace(t *testing.T) { // 5.2
	for room := 1; room <= 16; room++ {
		for by := range 18 {
			for n := range room + 1 {
				l := numbered(by, n)
				b, m := puts(t, turned(t, room, by), l...), told{room, l}
				for _, mem := range [][]uint32{nil, {9}, {9, 8, 7, 6}, memories()[4]} {
					drains(t, b, mem, m.drain(mem))
				}
			}
		}
	}
}

// The last one of an address is what memory has then.
func TestDrainOfOneAddress(t *testing.T) { // 5.2
	for by := range 18 {
		b := turned(t, 16, by)
		for n := range uint32(16) {
			b = puts(t, b, api.Entry{Addr: 1, Value: 40 + n})
			drains(t, b, []uint32{5, 6, 7}, []uint32{5, 40 + n, 7})
		}
	}
}

// A buffer that was drained is as good as a new one.
func TestPutBehindDrain(t *testing.T) { // 5.1, 5.2
	for room := 1; room <= 16; room++ {
		for by := range 18 {
			_, b := puts(t, turned(t, room, by), numbered(by, room)...).Drain([]uint32{1})
			l := numbered(by+3, room)
			b = puts(t, b, l...)
			is(t, b, told{room, l})
			if _, ok := b.Put(api.Entry{}); ok {
				t.Errorf("one too many in a room of %d", room)
			}
		}
	}
}

func TestDrainLeavesMemoryAlone(t *testing.T) { // 5.2, and rule 4
	whole := []uint32{1, 2, 3, 4, 5, 6}
	kept := slices.Clone(whole)
	b := puts(t, of(t, 6), api.Entry{Addr: 0, Value: 10}, api.Entry{Addr: 2, Value: 12}, api.Entry{Addr: 3, Value: 13}, api.Entry{Addr: 5, Value: 15})
	for n := range len(whole) + 1 {
		b.Drain(whole[:n])
		of(t, 1).Drain(whole[:n])
		Buf{}.Drain(whole[:n])
		if !slices.Equal(whole, kept) {
			t.Fatalf("Drain changed the memory that it was given: %v", whole)
		}
	}
}

func TestDrainAnswersNewMemory(t *testing.T) { // 5.2, and rule 4
	whole := []uint32{1, 2, 3, 4, 5, 6}
	kept := slices.Clone(whole)
	full := puts(t, of(t, 1), api.Entry{Addr: 1, Value: 9})
	for _, b := range []Buf{{}, of(t, 2), full} {
		for n := range len(whole) + 1 {
			first, _ := b.Drain(whole[:n])
			second, _ := b.Drain(whole[:n])
			want := slices.Clone(second)
			first = first[:cap(first)]
			for at := range first {
				first[at] = 99
			}
			if !slices.Equal(whole, kept) || !slices.Equal(second, want) {
				t.Fatalf("what Drain answers shares memory: %v, %v", whole, second)
			}
		}
	}
}

// A buffer is a value: two that were made of one know nothing of each other.
func TestWhatIsMadeOfABufferLeavesIt(t *testing.T) { // 5.1, 5.2
	for room := 1; room <= 16; room++ {
		for by := range 18 {
			for n := range room + 1 {
				l := numbered(by, n)
				b, m := puts(t, turned(t, room, by), l...), told{room, l}
				as := b
				x, y := api.Entry{Addr: 100, Value: 1}, api.Entry{Addr: 101, Value: 2}
				one, _ := b.Put(x)
				two, _ := b.Put(y)
				_, rest, _ := b.Pop()
				again, _ := rest.Put(y)
				b.Drain([]uint32{1, 2, 3})
				with, _ := m.put(x)
				is(t, one, with)
				with, _ = m.put(y)
				is(t, two, with)
				_, less, _ := m.pop()
				is(t, rest, less)
				with, _ = less.put(y)
				is(t, again, with)
				is(t, b, m)
				if b != as {
					t.Errorf("a buffer was changed: %v; was %v", b, as)
				}
			}
		}
	}
}
