package core

import (
	"slices"
	"testing"

	"deadlatch/api"
	"deadlatch/isa"
)

// small is a machine of one thread: memory, and a buffer of its stores.
type small struct {
	mem   []uint32
	buf   []api.Entry
	room  int
	slept []int
	notes []api.Event
}

func (s *small) flush() {
	if len(s.buf) > 0 {
		s.mem[s.buf[0].Addr] = s.buf[0].Value
		s.buf = s.buf[1:]
	}
}

func (s *small) load(addr int) uint32 {
	v := s.mem[addr]
	for _, e := range s.buf {
		if e.Addr == addr {
			v = e.Value
		}
	}
	return v
}

func (s *small) port() Port {
	return Port{
		Size:  len(s.mem),
		Load:  s.load,
		Room:  func() bool { return len(s.buf) < s.room },
		Store: func(addr int, v uint32) { s.buf = append(s.buf, api.Entry{Addr: addr, Value: v}) },
		Empty: func() bool { return len(s.buf) == 0 },
		Flush: s.flush,
		Swap: func(addr int, v uint32) uint32 {
			old := s.mem[addr]
			s.mem[addr] = v
			return old
		},
		Sleep:  func(addr int) { s.slept = append(s.slept, addr) },
		Wake:   func(int, uint32) uint32 { return 0 },
		Remote: func() {},
		Note:   func(x api.Event) { s.notes = append(s.notes, x) },
	}
}

// changed answers how many words differ.
func changed(a, b []uint32) int {
	n := 0
	for at := range a {
		if a[at] != b[at] {
			n++
		}
	}
	return n
}

// anyInstr answers an instruction by a number: most that may stand in a code of size, some that may not.
func anyInstr(seed uint64, size int) api.Instr {
	take := func(n int) int {
		v := int(seed % uint64(n))
		seed = seed/uint64(n)*2862933555777941757 + 3037000493
		seed ^= seed >> 29
		return v
	}
	for range 20 {
		i := api.Instr{Op: take(28)}
		i.A, i.B, i.C, i.K = take(8), take(9), take(8), uint32(take(8))
		if i.Op < 13 || i.Op > 15 {
			i.K *= uint32(take(2))
		}
		switch i.Op {
		case api.Halt, api.Fence, api.Remote, api.Yield:
			i.A, i.B, i.C, i.K = 0, 0, 0, 0
		case api.Set, api.Out, api.Mark, api.Jump, api.Zero, api.Some:
			i.B, i.C = 0, 0
		}
		if i.Op != api.Cas && isa.Asks(i.Op) {
			i.C = 0
		}
		if take(40) == 0 || isa.Right(i, size) {
			return i
		}
	}
	return api.Instr{Op: api.Yield}
}

// anyCode answers a code by a number.
func anyCode(seed uint64, size int) []api.Instr {
	l := make([]api.Instr, size)
	for n := range l {
		l[n] = anyInstr(seed*1000003+uint64(n)*7919, size)
	}
	return l
}

// A step changes at most one word of memory, and asks at most one thing that could.
func TestOneWord(t *testing.T) { // 8.3
	seen := map[int]int{}
	for seed := range uint64(3000) {
		size := 1 + int(seed%17)
		l := anyCode(seed, size)
		s := &small{mem: []uint32{1, 2, 3, 0, 0, 6, 7, 1}, room: 1 + int(seed%3)}
		x := regs(0, 0, 1, 2, 3, 4, 5, 6, 7)
		for range 60 {
			if x.Pc < len(l) && x.Status == api.Running {
				seen[l[x.Pc].Op]++
			}
			was, waiting := slices.Clone(s.mem), len(s.buf)
			x = Step(x, l, s.port())
			n := changed(was, s.mem)
			if n > 1 {
				t.Errorf("a step of %v: %v became %v", x, was, s.mem)
			}
			if d := len(s.buf) - waiting; d < -1 || d > 1 || d != 0 && n > 0 && d > 0 {
				t.Errorf("a step of %v: %d entries became %d", x, waiting, len(s.buf))
			}
			if x.Status == api.Blocked {
				x.Status = api.Running
			}
		}
	}
	for op := range 28 {
		if seen[op] < 20 {
			t.Errorf("%s was done %d times alone", isa.Name(op), seen[op])
		}
	}
}

// Of Store, Swap and Flush a step asks at most one, and that once.
func TestOneThatChanges(t *testing.T) { // 8.3
	everything(func(x api.Thread, l []api.Instr, a answers) {
		var got []ask
		Step(x, l, a.port(&got))
		n := 0
		for _, y := range got {
			if y.what == "Store" || y.what == "Swap" || y.what == "Flush" {
				n++
			}
		}
		if n > 1 {
			t.Errorf("%s asks %v", at(x, l), got)
		}
	})
}

// instrs answers all instructions of a few registers and words that may stand in a code of 3, and some that may not.
func instrs() []api.Instr {
	var l []api.Instr
	skipped := 0
	for n := range 28 * 2 * 4 * 3 * 4 {
		i := api.Instr{
			Op: n % 28,
			A:  n / 28 % 2,
			B:  []int{0, 1, 2, 8}[n/56%4],
			C:  n / 224 % 3,
			K:  []uint32{0, 1, 3, top}[n/672%4],
		}
		if !isa.Right(i, 3) {
			skipped++
			if skipped%97 != 0 {
				continue
			}
		}
		l = append(l, i)
	}
	return l
}

// everything goes through instructions, registers and what a port may tell.
func everything(do func(x api.Thread, l []api.Instr, a answers)) {
	words := []uint32{0, 1, 3, top}
	for _, i := range instrs() {
		l := padded(1, i, 1)
		for n := range 64 {
			x := regs(1, words[n%4], words[n/4%4], words[n/16%4])
			for m := range 16 {
				a := answers{size: 4, load: words[m%4], swap: 5, wake: words[(m+n)%4], room: m&4 != 0, empty: m&8 != 0}
				do(x, l, a)
			}
		}
	}
}

// Each step is as the document tells it.
func TestAsTold(t *testing.T) { // 8.2, 8.3
	everything(func(x api.Thread, l []api.Instr, a answers) { isAsTold(t, x, l, a) })
}

// Whole runs, too, are as the document tells them.
func TestRunsAsTold(t *testing.T) { // 8.2, 8.3
	for seed := range uint64(2000) {
		l := anyCode(seed, 1+int(seed%13))
		x := regs(0, 0, 1, 2, 3, 4, 5, 6, 7)
		for n := range uint64(40) {
			v := seed*31 + n*17
			a := answers{size: 8, load: uint32(v % 5), wake: uint32(v % 3), room: v%4 != 0, empty: v%3 != 0}
			isAsTold(t, x, l, a)
			x, _ = told(x, l, a)
			if x.Status == api.Blocked {
				x.Status = api.Running
			}
		}
	}
}

// What a thread does hangs on its code, its state, and what it is told: not on what was done ahead of it, nor on instructions elsewhere in a code of that size, nor on registers that it doesn't use.
func TestHangsOnNothingElse(t *testing.T) { // 8.3
	everything(func(x api.Thread, l []api.Instr, a answers) {
		var first, again []ask
		y := Step(x, l, a.port(&first))
		other := slices.Clone(l)
		other[0], other[2] = api.Instr{Op: api.Set, A: 2, K: 5}, api.Instr{Op: -5}
		if z := Step(x, other, a.port(&again)); z != y || !slices.Equal(first, again) {
			t.Errorf("%s: %v, %v; then %v, %v", at(x, l), y, first, z, again)
		}
		x.Regs[7] = 4711
		y.Regs[7] = 4711
		if z := Step(x, l, a.port(&again)); z != y {
			t.Errorf("%s: %v; with another register 7 %v", at(x, l), y, z)
		}
	})
}

func FuzzStep(f *testing.F) {
	f.Add(0, 0, 0, 0, 0, 0, uint32(0), uint32(0), uint32(0), uint32(0), uint32(0), uint32(0), uint8(0), 0)
	f.Add(0, 0, api.Cas, 1, 8, 2, uint32(5), uint32(0), uint32(9), uint32(0), uint32(0), uint32(0), uint8(3), 6)
	f.Add(0, 0, api.Wait, 1, 8, 0, uint32(5), uint32(0), uint32(9), uint32(0), uint32(0), uint32(0), uint8(3), 6)
	f.Add(0, 1, api.Some, 1, 0, 0, uint32(2), uint32(1), uint32(9), uint32(0), uint32(0), uint32(0), uint8(0), 6)
	f.Fuzz(func(t *testing.T, status, pc, op, a, b, c int, k, r1, r2, r7, v, woken uint32, tells uint8, size int) {
		x := regs(pc, k/2, r1, r2, 3, 4, 5, 6, r7)
		x.Status = status
		i := api.Instr{Op: op, A: a, B: b, C: c, K: k}
		s := answers{size: size, load: v, swap: v + 1, wake: woken, room: tells&1 != 0, empty: tells&2 != 0}
		isAsTold(t, x, code(i, i), s)
		isAsTold(t, x, code(i), s)
		want := k
		if b >= 0 && b <= 7 {
			want += x.Regs[b]
		}
		if got := Address(x, i); got != want {
			t.Errorf("Address(%v, %+v) = %d; want %d", x, i, got, want)
		}
	})
}
