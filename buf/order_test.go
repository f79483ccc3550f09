package buf

import (
	"slices"
	"testing"

	"deadlatch/api"
)

// As many are kept in the buffer as it goes, more puts and pops than it has room for, and each comes out in its turn.
func TestPutsAndPopsByTurns(t *testing.T) { // 5.3
	for room := 1; room <= 16; room++ {
		for kept := range room {
			b := of(t, room)
			next := 0
			for n := range 100 {
				b = puts(t, b, api.Entry{Addr: n % 3, Value: uint32(n)})
				if n < kept {
					continue
				}
				x, c, ok := b.Pop()
				if x != (api.Entry{Addr: next % 3, Value: uint32(next)}) || !ok {
					t.Fatalf("Pop = %v, %v; want the one that was put as number %d", x, ok, next)
				}
				next++
				b = c
			}
			if b.Len() != kept {
				t.Errorf("%d are left; want %d", b.Len(), kept)
			}
		}
	}
}

// walk does all that can be done in so many steps, and holds each buffer on the way against the list, ahead of and behind what is made of it.
func walk(t *testing.T, b Buf, m told, number uint32, steps int) {
	is(t, b, m)
	if steps == 0 || t.Failed() {
		return
	}
	x := api.Entry{Addr: int(number % 2), Value: number}
	c, ok := b.Put(x)
	with, fits := m.put(x)
	if ok != fits {
		t.Errorf("Put = %v with %d entries in a room of %d", ok, len(m.l), m.room)
	}
	walk(t, c, with, number+1, steps-1)
	y, c, ok := b.Pop()
	want, without, there := m.pop()
	if y != want || ok != there {
		t.Errorf("Pop = %v, %v; want %v, %v", y, ok, want, there)
	}
	walk(t, c, without, number+1, steps-1)
	is(t, b, m)
}

func TestAllWaysOfTenSteps(t *testing.T) { // 5.1, 5.2, 5.3
	for room := range 5 {
		b, _ := New(room)
		walk(t, b, told{room: room}, 1, 10)
	}
}

// What comes out, by pops, by a list and by a drain, is one order: the one in which it was put.
func TestOutAsIn(t *testing.T) { // 5.3
	for room := 1; room <= 16; room++ {
		for by := range 18 {
			l := numbered(by, room)
			b := puts(t, turned(t, room, by), l...)
			if got := b.Entries(); !slices.Equal(got, l) {
				t.Errorf("Entries = %v; want %v", got, l)
			}
			var popped []api.Entry
			mem := memories()[4]
			want, _ := b.Drain(mem)
			for x, c, ok := b.Pop(); ok && len(popped) <= room; x, c, ok = c.Pop() {
				popped = append(popped, x)
				if x.Addr >= 0 && x.Addr < len(mem) {
					mem[x.Addr] = x.Value
				}
			}
			if !slices.Equal(popped, l) {
				t.Errorf("popped %v; want %v", popped, l)
			}
			if !slices.Equal(mem, want) {
				t.Errorf("Drain and pops come to different memories")
			}
		}
	}
}

// FuzzBuf does what bytes tell to a buffer and to a list; all buffers on the way are held against their lists at the end once more.
func FuzzBuf(f *testing.F) { // 5.1, 5.2, 5.3
	f.Add(2, []byte{0, 1, 2, 3, 3, 0, 64, 128, 255})
	f.Add(0, []byte{0, 3, 6})
	f.Add(17, []byte{9})
	f.Add(16, slices.Repeat([]byte{0, 4, 8, 3, 7, 1}, 30))
	f.Fuzz(func(t *testing.T, room int, does []byte) {
		does = does[:min(len(does), 300)]
		b, e := New(room)
		if right := room >= 1 && room <= 16; (e == api.OK) != right || (e == api.ErrArg) == right {
			t.Fatalf("New(%d) = %d", room, e)
		}
		m := told{}
		if e == api.OK {
			m.room = room
		}
		var buffers []Buf
		var lists []told
		for at, what := range does {
			buffers, lists = append(buffers, b), append(lists, m)
			var ok, want bool
			switch what % 4 {
			case 0, 1:
				x := api.Entry{Addr: addrs[int(what/4)%len(addrs)], Value: uint32(at)}
				b, ok = b.Put(x)
				m, want = m.put(x)
			case 2:
				var x, y api.Entry
				x, b, ok = b.Pop()
				y, m, want = m.pop()
				want = want && x == y
			case 3:
				mem := []uint32{7, 8, 9, 10}[:what/4%5]
				var after []uint32
				after, b = b.Drain(mem)
				ok, want = slices.Equal(after, m.drain(mem)), true
				m.l = nil
			}
			if ok != want {
				t.Fatalf("step %d (%d) answers %v", at, what, ok)
			}
		}
		for at := range buffers {
			is(t, buffers[at], lists[at])
		}
		is(t, b, m)
	})
}
