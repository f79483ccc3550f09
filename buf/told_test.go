package buf

import (
	"math"
	"slices"
	"testing"

	"deadlatch/api"
)

// told is a buffer as the document tells of it: a room, and a list, the oldest entry first. Nothing of it is ever changed in place.
type told struct {
	room int
	l    []api.Entry
}

func (m told) put(x api.Entry) (told, bool) {
	if len(m.l) >= m.room {
		return m, false
	}
	return told{m.room, append(slices.Clone(m.l), x)}, true
}

func (m told) pop() (api.Entry, told, bool) {
	if len(m.l) == 0 {
		return api.Entry{}, m, false
	}
	return m.l[0], told{m.room, slices.Clone(m.l[1:])}, true
}

func (m told) find(addr int) (uint32, bool) {
	var v uint32
	var ok bool
	for _, x := range m.l {
		if x.Addr == addr {
			v, ok = x.Value, true
		}
	}
	return v, ok
}

func (m told) drain(mem []uint32) []uint32 {
	var after []uint32
	for addr, v := range mem {
		if last, ok := m.find(addr); ok {
			v = last
		}
		after = append(after, v)
	}
	return after
}

// addrs are what entries and questions are tried with: ordinary addresses, the edges of a memory, and what no memory has.
var addrs = []int{0, 1, 2, 3, 5, 15, 16, api.MaxMem - 1, api.MaxMem, -1, -2, -16, 1 << 32, 1<<32 + 3, -1 << 32, math.MaxInt32, math.MinInt32, math.MaxInt, math.MinInt}

// memories are what buffers are drained into.
func memories() [][]uint32 {
	l := [][]uint32{nil, {}, {9}, {9, 8, 7, 6}, make([]uint32, api.MaxMem), make([]uint32, api.MaxMem+1)}
	for at := range l[4] {
		l[4][at] = uint32(at) + 100
	}
	return l
}

// is holds all that a buffer tells, but for what may be put into it, against what it has to be.
func is(t *testing.T, b Buf, m told) {
	t.Helper()
	if b.Len() != len(m.l) {
		t.Errorf("Len = %d; want %d", b.Len(), len(m.l))
	}
	if want := len(m.l) == m.room; b.Full() != want {
		t.Errorf("Full = %v of %d entries in a room of %d", b.Full(), len(m.l), m.room)
	}
	if l := b.Entries(); !slices.Equal(l, m.l) {
		t.Errorf("Entries = %v; want %v", l, m.l)
	}
	for _, addr := range addrs {
		v, ok := b.Find(addr)
		if want, there := m.find(addr); v != want || ok != there {
			t.Errorf("Find(%d) = %d, %v of %v; want %d, %v", addr, v, ok, m.l, want, there)
		}
	}
	for _, x := range m.l {
		v, ok := b.Find(x.Addr)
		if want, _ := m.find(x.Addr); v != want || !ok {
			t.Errorf("Find(%d) = %d, %v of %v; want %d, true", x.Addr, v, ok, m.l, want)
		}
	}
	popsAll(t, b, m)
}

// popsAll holds what comes out of a buffer till there is none against what has to.
func popsAll(t *testing.T, b Buf, m told) {
	t.Helper()
	for n := len(m.l); ; n-- {
		x, rest, ok := b.Pop()
		want, left, there := m.pop()
		if x != want || ok != there {
			t.Errorf("Pop = %v, %v; want %v, %v", x, ok, want, there)
		}
		if rest.Len() != len(left.l) || rest.Full() != (len(left.l) == left.room) {
			t.Errorf("Pop leaves %d, full %v, in a room of %d; want %d", rest.Len(), rest.Full(), left.room, len(left.l))
		}
		if n <= 0 {
			return
		}
		b, m = rest, left
	}
}

// puts puts entries, all of which there is room for.
func puts(t *testing.T, b Buf, l ...api.Entry) Buf {
	t.Helper()
	for _, x := range l {
		c, ok := b.Put(x)
		if !ok {
			t.Fatalf("Put(%v) = false with %d entries", x, b.Len())
		}
		b = c
	}
	return b
}

// of answers an empty buffer of a room that may be.
func of(t *testing.T, room int) Buf {
	t.Helper()
	b, e := New(room)
	if e != api.OK {
		t.Fatalf("New(%d) = %d", room, e)
	}
	return b
}

// turned answers an empty buffer through which so many entries went, so that those to come stand elsewhere in its ring.
func turned(t *testing.T, room, by int) Buf {
	t.Helper()
	b := of(t, room)
	for n := range by {
		x := api.Entry{Addr: n % 7, Value: uint32(n) + 1000}
		y, c, ok := puts(t, b, x).Pop()
		if y != x || !ok {
			t.Fatalf("Pop = %v, %v; want %v, true", y, ok, x)
		}
		b = c
	}
	return b
}

// numbered answers entries that can be told from each other, so many, of a few addresses.
func numbered(from, n int) []api.Entry {
	l := make([]api.Entry, n)
	for at := range l {
		l[at] = api.Entry{Addr: addrs[(from+at)%len(addrs)], Value: uint32(from+at) + 1}
	}
	return l
}
