package core

import (
	"math"
	"testing"

	"deadlatch/api"
	"deadlatch/isa"
)

// asking are the kinds that ask memory; draining, those that wait for an empty buffer.
var asking = []int{api.Load, api.Store, api.Swap, api.Fetch, api.Cas, api.Wait, api.Wake}
var draining = []int{api.Fence, api.Swap, api.Fetch, api.Cas, api.Wait, api.Wake, api.Remote}

// An address below Size is asked; one of just Size, or above it, is a fault, whatever the buffer has.
func TestAddressAndSize(t *testing.T) { // 8.2
	sizes := []int{0, 1, 2, 8, 1024, math.MaxInt32, 1 << 31, top, top + 1, math.MaxInt, -1, -2, math.MinInt32, math.MinInt, -1 << 32, -top}
	for _, op := range asking {
		for _, size := range sizes {
			for _, m := range []int{0, 1, 2, 7, 8, 9, 1023, 1024, 1025, 1<<31 - 1, 1 << 31, top - 1, top} {
				for _, base := range []uint32{0, 1, 7, 1 << 31, top} {
					x := regs(1, 9, base, 3)
					reaches(t, x, api.Instr{Op: op, A: 2, B: 1, K: uint32(m) - base}, m, size)
				}
				reaches(t, regs(1, 9, 1, 3), api.Instr{Op: op, A: 2, B: 8, K: uint32(m)}, m, size)
			}
		}
	}
}

// reaches holds a step of an instruction at the address m against memory of that size.
func reaches(t *testing.T, x api.Thread, i api.Instr, m, size int) {
	t.Helper()
	l := padded(1, i, 1)
	a := free
	a.size = size
	isAsTold(t, x, l, a)
	var got []ask
	y := Step(x, l, a.port(&got))
	if m >= size {
		want := x
		want.Status = api.Faulted
		is(t, x, l, a, want, asks(noteOf(api.EvFault, 1)))
		is(t, x, l, answers{size: size}, want, asks(noteOf(api.EvFault, 1)))
		return
	}
	if y.Status == api.Faulted || y.Pc != 2 {
		t.Errorf("%s at %d of %d: %v", isa.Name(i.Op), m, size, y)
	}
	if last := told1(got); last.Addr != m || last.Kind == api.EvFault {
		t.Errorf("%s at %d of %d tells %v", isa.Name(i.Op), m, size, last)
	}
}

// told1 answers the one event among asks; one of no kind, if there isn't just one.
func told1(l []ask) api.Event {
	var x api.Event
	n := 0
	for _, a := range l {
		if a.what == "Note" {
			x = a.x
			n++
		}
	}
	if n != 1 {
		return api.Event{Kind: -n}
	}
	return x
}

// An address that goes round beyond a word is a small one.
func TestRound(t *testing.T) { // 8.2
	x := regs(0, top, 5)
	is(t, x, code(api.Instr{Op: api.Load, A: 2, B: 0, K: 8}), free, with(with(regs(1, top, 5), 2, 40), 0, top), asks(load(7), note(api.Event{Kind: api.EvLoad, Addr: 7, Value: 40})))
	want := x
	want.Status = api.Faulted
	is(t, x, code(api.Instr{Op: api.Load, A: 2, B: 0, K: 9}), free, want, asks(noteOf(api.EvFault, 0)))
	is(t, x, code(api.Instr{Op: api.Load, A: 2, B: 0, K: 0}), free, want, asks(noteOf(api.EvFault, 0)))
}

// With a buffer that isn't empty, what drains asks Flush once, and nothing else is done; what doesn't drain doesn't ask.
func TestNotDrained(t *testing.T) { // 8.2
	a := free
	a.empty = false
	for op := range 28 {
		i := api.Instr{Op: op}
		if isa.Asks(op) {
			i = api.Instr{Op: op, A: 1, B: 8, K: 3}
		}
		x := regs(1, 0, 40, 5)
		l := padded(1, i, 1)
		drains := false
		for _, d := range draining {
			drains = drains || d == op
		}
		if drains {
			is(t, x, l, a, x, asks(empty(), flush()))
			b := a
			b.room = false
			is(t, x, l, b, x, asks(empty(), flush()))
			continue
		}
		isAsTold(t, x, l, a)
		var got []ask
		Step(x, l, a.port(&got))
		for _, y := range got {
			if y.what == "Empty" || y.what == "Flush" {
				t.Errorf("%s asks %s", isa.Name(op), y.what)
			}
		}
	}
}

// With a buffer that is full, a store asks Flush once; nothing else asks Room.
func TestNoRoom(t *testing.T) { // 8.2
	a := free
	a.room = false
	for op := range 28 {
		i := api.Instr{Op: op}
		if isa.Asks(op) {
			i = api.Instr{Op: op, A: 1, B: 8, K: 3}
		}
		x := regs(1, 0, 40, 5)
		l := padded(1, i, 1)
		if op == api.Store {
			is(t, x, l, a, x, asks(room(), flush()))
			b := a
			b.empty = false
			is(t, x, l, b, x, asks(room(), flush()))
			continue
		}
		isAsTold(t, x, l, a)
		var got []ask
		Step(x, l, a.port(&got))
		for _, y := range got {
			if y.what == "Room" || y.what == "Flush" {
				t.Errorf("%s asks %s", isa.Name(op), y.what)
			}
		}
	}
}

func TestLoad(t *testing.T) { // 8.2
	for a := range 8 {
		for b := range 9 {
			x := regs(0, 0, 1, 2, 3, 4, 5, 6, 7)
			m := 0
			if b < 8 {
				m = b
			}
			for _, v := range []uint32{0, 1, 1 << 31, top} {
				is(t, x, code(api.Instr{Op: api.Load, A: a, B: b}), answers{size: 8, load: v}, with(regs(1, 0, 1, 2, 3, 4, 5, 6, 7), a, v), asks(load(m), note(api.Event{Kind: api.EvLoad, Addr: m, Value: v})))
			}
		}
	}
}

func TestStore(t *testing.T) { // 8.2
	for a := range 8 {
		for _, v := range []uint32{0, 1, 1 << 31, top} {
			x := with(regs(0, 10, 11, 12, 13, 14, 15, 16, 17), a, v)
			want := x
			want.Pc = 1
			is(t, x, code(api.Instr{Op: api.Store, A: a, B: 8, K: 4}), free, want, asks(room(), store(4, v), note(api.Event{Kind: api.EvStore, Addr: 4, Value: v})))
		}
	}
}

// What Swap tells is nothing to a thread: what Load told counts.
func TestSwap(t *testing.T) { // 8.2
	for _, old := range []uint32{0, 7, top} {
		for _, r := range []uint32{0, 7, top} {
			for _, says := range []uint32{0, 7, 999, top} {
				a := answers{size: 4, load: old, swap: says, empty: true}
				is(t, regs(0, 1, r), code(api.Instr{Op: api.Swap, A: 1, B: 0, K: 2}), a, regs(1, 1, old), asks(empty(), load(3), swap(3, r), note(api.Event{Kind: api.EvSwap, Addr: 3, Value: r, Old: old, Ok: true})))
			}
		}
	}
}

func TestFetch(t *testing.T) { // 8.2
	for _, c := range []struct{ old, r, sum uint32 }{{0, 0, 0}, {5, 7, 12}, {7, top, 6}, {top, 1, 0}, {top, top, top - 1}, {1 << 31, 1 << 31, 0}, {0, 9, 9}, {9, 0, 9}} {
		a := answers{size: 4, load: c.old, swap: 999, empty: true}
		is(t, regs(0, 1, c.r), code(api.Instr{Op: api.Fetch, A: 1, B: 0, K: 2}), a, regs(1, 1, c.old), asks(empty(), load(3), swap(3, c.sum), note(api.Event{Kind: api.EvSwap, Addr: 3, Value: c.sum, Old: c.old, Ok: true})))
	}
}

func TestCas(t *testing.T) { // 8.2
	words := []uint32{0, 1, 9, 1 << 31, top}
	for _, old := range words {
		for _, r := range words {
			for _, c := range words {
				wanted := asks(empty(), load(5), note(api.Event{Kind: api.EvSwap, Addr: 5, Value: old, Old: old}))
				if old == r {
					wanted = asks(empty(), load(5), swap(5, c), note(api.Event{Kind: api.EvSwap, Addr: 5, Value: c, Old: old, Ok: true}))
				}
				a := answers{size: 6, load: old, swap: 999, empty: true}
				is(t, regs(0, 0, r, c), code(api.Instr{Op: api.Cas, A: 1, B: 8, C: 2, K: 5}), a, regs(1, 0, old, c), wanted)
			}
		}
	}
}

// A cas whose two registers are one puts what it found, if it found it; one whose base is its register asks at what that was.
func TestCasOfOneRegister(t *testing.T) { // 8.2
	i := code(api.Instr{Op: api.Cas, A: 1, B: 1, C: 1, K: 2})
	is(t, regs(0, 0, 3), i, answers{size: 6, load: 3, empty: true}, regs(1, 0, 3), asks(empty(), load(5), swap(5, 3), note(api.Event{Kind: api.EvSwap, Addr: 5, Value: 3, Old: 3, Ok: true})))
	is(t, regs(0, 0, 3), i, answers{size: 6, load: 4, empty: true}, regs(1, 0, 4), asks(empty(), load(5), note(api.Event{Kind: api.EvSwap, Addr: 5, Value: 4, Old: 4})))
}

func TestWait(t *testing.T) { // 8.2
	words := []uint32{0, 1, 2, 1 << 31, top}
	for _, v := range words {
		for _, r := range words {
			a := answers{size: 6, load: v, empty: true}
			want := regs(2, 8, 0, 1)
			want.Regs[1] = 1
			wanted := asks(empty(), load(5), note(api.Event{Kind: api.EvWait, Pc: 1, Addr: 5, Value: v}))
			if v == r {
				want.Regs[1] = 0
				want.Status = api.Blocked
				wanted = asks(empty(), load(5), note(api.Event{Kind: api.EvWait, Pc: 1, Addr: 5, Value: v, Ok: true}), sleep(5))
			}
			is(t, regs(1, 8, r, 1), padded(1, api.Instr{Op: api.Wait, A: 1, B: 2, K: 4}, 0), a, want, wanted)
		}
	}
}

func TestWake(t *testing.T) { // 8.2
	for _, n := range []uint32{0, 1, 2, 8, 1 << 31, top} {
		for _, woken := range []uint32{0, 1, 2, top} {
			a := answers{size: 6, load: 77, wake: woken, empty: true}
			is(t, regs(1, 8, n, 1), padded(1, api.Instr{Op: api.Wake, A: 1, B: 2, K: 4}, 0), a, regs(2, 8, woken, 1), asks(empty(), wake(5, n), note(api.Event{Kind: api.EvWake, Pc: 1, Addr: 5, Value: woken})))
		}
	}
}

func TestMarkAndOut(t *testing.T) { // 8.2
	for a := range 8 {
		for _, v := range []uint32{0, 1, 1 << 31, top} {
			for _, k := range []uint32{0, 1, 1 << 31, top} {
				x := with(regs(3, 10, 11, 12, 13, 14, 15, 16, 17), a, v)
				want := x
				want.Pc = 4
				is(t, x, padded(3, api.Instr{Op: api.Mark, A: a, K: k}, 0), answers{}, want, asks(note(api.Event{Kind: api.EvMark, Pc: 3, Value: v, K: k})))
				is(t, x, padded(3, api.Instr{Op: api.Out, A: a}, 0), answers{}, want, asks(note(api.Event{Kind: api.EvOut, Pc: 3, Value: v})))
			}
		}
	}
}
