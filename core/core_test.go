package core

import (
	"math"
	"slices"
	"testing"

	"deadlatch/api"
	"deadlatch/isa"
)

func TestAddressByHand(t *testing.T) { // 8.1
	x := regs(3, 1, 20, 0, top, 1<<31, 5, 6, 100)
	for _, c := range []struct {
		b    int
		k    uint32
		want uint32
	}{
		{8, 0, 0}, {8, 5, 5}, {8, top, top}, {8, 1 << 31, 1 << 31},
		{0, 0, 1}, {0, 5, 6}, {1, 5, 25}, {2, 5, 5}, {7, 1, 101}, {7, 0, 100},
		{0, top, 0}, {1, top, 19}, {3, 0, top}, {3, 1, 0}, {3, 5, 4}, {3, top, top - 1}, {4, 1 << 31, 0}, {4, 1<<31 + 7, 7},
	} {
		for op := -1; op < 30; op++ {
			i := api.Instr{Op: op, A: 6, B: c.b, C: 5, K: c.k}
			if got := Address(x, i); got != c.want {
				t.Errorf("Address(%v, %+v) = %d; want %d", x, i, got, c.want)
			}
		}
	}
}

// A B that is no register counts as 8, whatever the registers hold.
func TestAddressOfNoRegister(t *testing.T) { // 8.1
	x := regs(0, 1, 2, 3, 4, 5, 6, 7, 8)
	for _, b := range append([]int{8}, strangers...) {
		for _, k := range []uint32{0, 1, 7, 1 << 31, top} {
			if got := Address(x, api.Instr{Op: api.Load, B: b, K: k}); got != k {
				t.Errorf("Address with B %d, K %d = %d", b, k, got)
			}
		}
	}
}

// Where the thread is, and what becomes of it, is nothing to an address.
func TestAddressOfAnyThread(t *testing.T) { // 8.1
	for _, pc := range append([]int{0, 1, 4000}, strangers...) {
		for _, status := range append([]int{0, 1, 2, 3}, strangers...) {
			x := regs(pc, 0, 0, 9)
			x.Status = status
			if got := Address(x, api.Instr{Op: api.Store, B: 2, K: 4}); got != 13 {
				t.Errorf("Address of %v = %d; want 13", x, got)
			}
		}
	}
}

// Each line: the instruction, at the place 2 of a code of 5, done by a thread whose registers are 0, 11, 22, ..., 77; the thread behind it, and what was asked.
func TestEachOp(t *testing.T) { // 8.2
	r := regs(2, 0, 11, 22, 33, 44, 55, 66, 77)
	next := r
	next.Pc = 3
	to := func(pc int) api.Thread { x := r; x.Pc = pc; return x }
	status := func(x api.Thread, s int) api.Thread { x.Status = s; return x }
	ev := func(kind int, x api.Event) ask { x.Kind, x.Pc = kind, 2; return note(x) }
	seen := map[int]bool{}
	for _, c := range []struct {
		i    api.Instr
		want api.Thread
		asks []ask
	}{
		{api.Instr{Op: api.Halt}, status(r, api.Halted), asks(noteOf(api.EvHalt, 2))},
		{api.Instr{Op: api.Set, A: 3, K: 9}, with(next, 3, 9), nil},
		{api.Instr{Op: api.Set, A: 7, K: top}, with(next, 7, top), nil},
		{api.Instr{Op: api.Move, A: 3, B: 7}, with(next, 3, 77), nil},
		{api.Instr{Op: api.Move, A: 7, B: 0}, with(next, 7, 0), nil},
		{api.Instr{Op: api.Add, A: 0, B: 1, C: 2}, with(next, 0, 33), nil},
		{api.Instr{Op: api.Sub, A: 0, B: 1, C: 2}, with(next, 0, top-10), nil},
		{api.Instr{Op: api.Sub, A: 2, B: 2, C: 1}, with(next, 2, 11), nil},
		{api.Instr{Op: api.Mul, A: 0, B: 1, C: 2}, with(next, 0, 242), nil},
		{api.Instr{Op: api.And, A: 0, B: 3, C: 1}, with(next, 0, 1), nil},
		{api.Instr{Op: api.Or, A: 0, B: 3, C: 1}, with(next, 0, 43), nil},
		{api.Instr{Op: api.Xor, A: 0, B: 3, C: 1}, with(next, 0, 42), nil},
		{api.Instr{Op: api.Shl, A: 0, B: 1, C: 3}, with(next, 0, 22), nil},
		{api.Instr{Op: api.Shr, A: 0, B: 1, C: 3}, with(next, 0, 5), nil},
		{api.Instr{Op: api.Less, A: 1, B: 1, C: 2}, with(next, 1, 1), nil},
		{api.Instr{Op: api.Less, A: 1, B: 2, C: 1}, with(next, 1, 0), nil},
		{api.Instr{Op: api.Same, A: 1, B: 7, C: 7}, with(next, 1, 1), nil},
		{api.Instr{Op: api.Same, A: 1, B: 7, C: 6}, with(next, 1, 0), nil},
		{api.Instr{Op: api.Jump, K: 0}, to(0), nil},
		{api.Instr{Op: api.Zero, A: 0, K: 4}, to(4), nil},
		{api.Instr{Op: api.Zero, A: 1, K: 4}, next, nil},
		{api.Instr{Op: api.Some, A: 1, K: 4}, to(4), nil},
		{api.Instr{Op: api.Some, A: 0, K: 4}, next, nil},
		{api.Instr{Op: api.Load, A: 1, B: 8, K: 7}, with(next, 1, 40), asks(load(7), ev(api.EvLoad, api.Event{Addr: 7, Value: 40}))},
		{api.Instr{Op: api.Store, A: 4, B: 0, K: 6}, next, asks(room(), store(6, 44), ev(api.EvStore, api.Event{Addr: 6, Value: 44}))},
		{api.Instr{Op: api.Fence}, next, asks(empty(), ev(api.EvFence, api.Event{}))},
		{api.Instr{Op: api.Swap, A: 4, B: 8, K: 1}, with(next, 4, 40), asks(empty(), load(1), swap(1, 44), ev(api.EvSwap, api.Event{Addr: 1, Value: 44, Old: 40, Ok: true}))},
		{api.Instr{Op: api.Fetch, A: 4, B: 8, K: 1}, with(next, 4, 40), asks(empty(), load(1), swap(1, 84), ev(api.EvSwap, api.Event{Addr: 1, Value: 84, Old: 40, Ok: true}))},
		{api.Instr{Op: api.Cas, A: 4, B: 8, C: 6, K: 1}, with(next, 4, 40), asks(empty(), load(1), ev(api.EvSwap, api.Event{Addr: 1, Value: 40, Old: 40}))},
		{api.Instr{Op: api.Out, A: 5}, next, asks(ev(api.EvOut, api.Event{Value: 55}))},
		{api.Instr{Op: api.Wait, A: 4, B: 8, K: 1}, with(next, 4, 1), asks(empty(), load(1), ev(api.EvWait, api.Event{Addr: 1, Value: 40}))},
		{api.Instr{Op: api.Wake, A: 4, B: 8, K: 1}, with(next, 4, 3), asks(empty(), wake(1, 44), ev(api.EvWake, api.Event{Addr: 1, Value: 3}))},
		{api.Instr{Op: api.Remote}, next, asks(empty(), remote(), ev(api.EvRemote, api.Event{}))},
		{api.Instr{Op: api.Yield}, next, nil},
		{api.Instr{Op: api.Mark, A: 5, K: 123}, next, asks(ev(api.EvMark, api.Event{Value: 55, K: 123}))},
	} {
		l := padded(2, c.i, 2)
		is(t, r, l, free, c.want, c.asks)
		isAsTold(t, r, l, free)
		seen[c.i.Op] = true
	}
	for op := range 28 {
		if !seen[op] {
			t.Errorf("nothing is said of %s", isa.Name(op))
		}
	}
}

func TestExample(t *testing.T) { // 8.2: the chapter's own
	mem := make([]uint32, 6)
	p := Port{
		Size:  6,
		Load:  func(addr int) uint32 { return mem[addr] },
		Empty: func() bool { return true },
		Swap:  func(addr int, v uint32) uint32 { mem[addr] = v; return 77 },
		Note:  func(api.Event) {},
	}
	x := Step(regs(0, 0, 0, 9), code(api.Instr{Op: api.Cas, A: 1, B: 8, C: 2, K: 5}), p)
	if x != regs(1, 0, 0, 9) || !slices.Equal(mem, []uint32{0, 0, 0, 0, 0, 9}) {
		t.Errorf("the thread is %v, memory %v", x, mem)
	}
}

// Who isn't Running stays as it is, wherever it is, and nothing is asked.
func TestNotRunning(t *testing.T) { // 8.2
	for _, status := range append([]int{api.Blocked, api.Halted, api.Faulted, 4, 8}, strangers...) {
		for _, pc := range append([]int{0, 1, 2, 28}, strangers...) {
			x := regs(pc, 1, 2, 3, 4, 5, 6, 7, 8)
			x.Status = status
			for op := -1; op < 29; op++ {
				for _, l := range [][]api.Instr{nil, code(api.Instr{Op: op}), code(api.Instr{Op: op, B: 8}, api.Instr{Op: op})} {
					is(t, x, l, free, x, nil)
					is(t, x, l, answers{}, x, nil)
				}
			}
		}
	}
}

// A place that the code hasn't: below 0, just behind its end, beyond.
func TestOutsideOfTheCode(t *testing.T) { // 8.2
	for _, size := range []int{0, 1, 2, 3, 4000} {
		l := make([]api.Instr, size, size+4)
		for n := range l[:cap(l)] {
			l[:cap(l)][n] = api.Instr{Op: api.Out, A: 1}
		}
		for _, pc := range []int{-1, -2, size, size + 1, size + 3, 4001, 1 << 32, 1<<32 + 1, -1 << 32, math.MaxInt, math.MinInt} {
			x := regs(pc, 1, 2, 3)
			want := x
			want.Status = api.Halted
			for _, a := range []answers{free, {}, {size: -1}} {
				is(t, x, l, a, want, asks(noteOf(api.EvHalt, pc)))
			}
		}
		if size > 0 {
			is(t, regs(size-1, 1, 2, 3), l, free, regs(size, 1, 2, 3), asks(note(api.Event{Kind: api.EvOut, Pc: size - 1, Value: 2})))
		}
	}
}

// What may not stand there is a fault, and asks nothing but a Note without an address.
func TestMayNotStand(t *testing.T) { // 8.2
	wrong := []api.Instr{
		{Op: api.Halt, A: 1}, {Op: api.Halt, K: 1}, {Op: api.Yield, B: 8}, {Op: api.Fence, B: 8}, {Op: api.Remote, C: 1},
		{Op: api.Set, A: 8}, {Op: api.Set, A: -1, K: 5}, {Op: api.Set, B: 1}, {Op: api.Move, B: 8}, {Op: api.Move, A: 1, B: -1}, {Op: api.Move, K: 1},
		{Op: api.Add, A: 8}, {Op: api.Add, B: 8}, {Op: api.Same, C: 8}, {Op: api.Less, C: -1},
		{Op: api.Jump, K: 4}, {Op: api.Zero, K: 4}, {Op: api.Some, A: 1, K: top}, {Op: api.Jump, A: 1}, {Op: api.Zero, A: 8, K: 1}, {Op: api.Some, A: -1},
		{Op: api.Load, A: 8, B: 8}, {Op: api.Load, B: 9}, {Op: api.Load, B: -1}, {Op: api.Load, B: 8, C: 1}, {Op: api.Store, A: 8, B: 8}, {Op: api.Store, B: 9},
		{Op: api.Swap, B: 9}, {Op: api.Fetch, B: 9}, {Op: api.Cas, B: 9}, {Op: api.Cas, B: 8, C: 8}, {Op: api.Cas, B: 8, C: -1}, {Op: api.Cas, A: 8, B: 8},
		{Op: api.Wait, A: -1, B: 8}, {Op: api.Wake, B: -1}, {Op: api.Out, A: 8}, {Op: api.Out, K: 1}, {Op: api.Mark, A: 8}, {Op: api.Mark, B: 1},
	}
	for _, op := range []int{-1, 28, 29, -27, 255, 256, 256 + 16, 1<<32 + 13, 1<<32 + 16, -1 << 32, math.MaxInt32, math.MinInt32, math.MaxInt, math.MinInt} {
		wrong = append(wrong, api.Instr{Op: op}, api.Instr{Op: op, B: 8})
	}
	for _, b := range strangers {
		for _, op := range []int{api.Load, api.Store, api.Swap, api.Fetch, api.Cas, api.Wait, api.Wake} {
			wrong = append(wrong, api.Instr{Op: op, A: 1, B: b, C: 0, K: 2})
		}
	}
	x := regs(1, 1, 0, 3, 4, 5, 6, 7, 2)
	want := x
	want.Status = api.Faulted
	for _, i := range wrong {
		for _, a := range []answers{free, {}, {size: 8}, {size: -1, room: true, empty: true}} {
			is(t, x, padded(1, i, 1), a, want, asks(noteOf(api.EvFault, 1)))
		}
	}
}

// A jump may lead just behind the last instruction of its own code, and no further.
func TestPlaces(t *testing.T) { // 8.2
	for _, size := range []int{1, 2, 7} {
		for _, i := range []api.Instr{{Op: api.Jump}, {Op: api.Zero, A: 1}, {Op: api.Some, A: 2}} {
			for k := range uint32(size + 3) {
				i.K = k
				for pc := range size {
					x := regs(pc, 5, 0, 5)
					want := regs(int(k), 5, 0, 5)
					wanted := asks()
					if int(k) > size {
						want = x
						want.Status = api.Faulted
						wanted = asks(noteOf(api.EvFault, pc))
					}
					is(t, x, padded(pc, i, size-pc-1), free, want, wanted)
				}
			}
		}
	}
}

func TestZeroAndSome(t *testing.T) { // 8.2
	for a := range 8 {
		for _, v := range []uint32{0, 1, 2, 255, 256, 1 << 16, 1 << 31, top} {
			x := with(regs(1, 1, 0, 1, 0, 1, 0, 1, 0), a, v)
			there, behind := x, x
			there.Pc, behind.Pc = 3, 2
			zero, some := behind, there
			if v == 0 {
				zero, some = there, behind
			}
			is(t, x, padded(1, api.Instr{Op: api.Zero, A: a, K: 3}, 1), free, zero, nil)
			is(t, x, padded(1, api.Instr{Op: api.Some, A: a, K: 3}, 1), free, some, nil)
			is(t, x, padded(1, api.Instr{Op: api.Jump, K: 3}, 1), free, there, nil)
		}
	}
}

// A jump to itself stays there, Running.
func TestJumpInPlace(t *testing.T) { // 8.2
	x := regs(2, 1)
	is(t, x, padded(2, api.Instr{Op: api.Jump, K: 2}, 0), free, x, nil)
	is(t, x, padded(2, api.Instr{Op: api.Some, K: 2}, 0), free, x, nil)
}

// What is handed in isn't changed, behind its end neither.
func TestHandedIn(t *testing.T) { // 8.2
	for op := range 28 {
		whole := make([]api.Instr, 9)
		for n := range whole {
			whole[n] = api.Instr{Op: op, A: n, B: 1, C: 2, K: uint32(n)}
		}
		whole[0] = api.Instr{Op: op}
		kept := slices.Clone(whole)
		x := regs(0, 1, 2, 3)
		for _, a := range []answers{free, {size: 8}, {}} {
			var got []ask
			Step(x, whole[:3], a.port(&got))
			Step(regs(1, 0), whole[:3], a.port(&got))
			Address(x, whole[0])
		}
		if !slices.Equal(whole, kept) || x != regs(0, 1, 2, 3) {
			t.Errorf("%s changed what it was handed: %v, %v", isa.Name(op), whole, x)
		}
	}
}

// A port without functions is asked nothing, and doesn't let a step panic.
func TestHoles(t *testing.T) { // 8.2
	for op := -1; op < 29; op++ {
		for _, b := range []int{0, 8} {
			for _, size := range []int{0, 1, -1, math.MaxInt, math.MinInt} {
				for pc := -1; pc < 3; pc++ {
					x := regs(pc, 0)
					i := api.Instr{Op: op, B: b}
					want, _ := told(x, code(i, i), answers{size: size})
					if y := Step(x, code(i, i), Port{Size: size}); y != want {
						t.Errorf("%+v, Size %d: %v; want %v", i, size, y, want)
					}
				}
			}
		}
	}
}

// Each function of a port may be missing alone: all others are asked as they are with it, and it tells zero values.
func TestHole(t *testing.T) { // 8.2
	holes := map[string]func(*Port, *answers){
		"Load":   func(p *Port, a *answers) { p.Load, a.load = nil, 0 },
		"Room":   func(p *Port, a *answers) { p.Room, a.room = nil, false },
		"Store":  func(p *Port, a *answers) { p.Store = nil },
		"Empty":  func(p *Port, a *answers) { p.Empty, a.empty = nil, false },
		"Flush":  func(p *Port, a *answers) { p.Flush = nil },
		"Swap":   func(p *Port, a *answers) { p.Swap, a.swap = nil, 0 },
		"Sleep":  func(p *Port, a *answers) { p.Sleep = nil },
		"Wake":   func(p *Port, a *answers) { p.Wake, a.wake = nil, 0 },
		"Remote": func(p *Port, a *answers) { p.Remote = nil },
		"Note":   func(p *Port, a *answers) { p.Note = nil },
	}
	for what, hole := range holes {
		for op := range 28 {
			for n := range 8 {
				a := answers{size: 8, load: uint32(n) % 2, wake: 2, room: n&2 != 0, empty: n&4 != 0}
				var got []ask
				p := a.port(&got)
				hole(&p, &a)
				i := api.Instr{Op: op}
				if isa.Asks(op) {
					i.B = 8
				}
				want, wanted := told(regs(0), code(i), a)
				wanted = slices.DeleteFunc(wanted, func(x ask) bool { return x.what == what })
				if y := Step(regs(0), code(i), p); y != want || !slices.Equal(got, wanted) {
					t.Errorf("%s without %s: %v, %v; want %v, %v", isa.Name(op), what, y, got, want, wanted)
				}
			}
		}
	}
}
