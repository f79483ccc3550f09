package tso

import (
	"fmt"
	"math"
	"slices"
	"testing"

	"deadlatch/api"
	"deadlatch/kern"
)

func TestNew(t *testing.T) { // 9.1, 9.2
	p := program(t, 3, []uint32{4, 5, 6}, "out r1", "", "halt")
	m := made(t, p)
	is(t, m, state{threads: make([]api.Thread, 3), mem: []uint32{4, 5, 6}, bufs: make([][]api.Entry, 3)})
}

// What is wrong with a program is told, and there is no machine.
func TestNewOfWrongPrograms(t *testing.T) { // 9.1
	halts := func(n int) [][]api.Instr { return make([][]api.Instr, n) }
	wrong := []api.Instr{{Op: api.Out, A: 8}}
	for _, c := range []struct {
		name string
		p    api.Program
		want api.Errno
	}{
		{"the zero one", api.Program{}, api.ErrArg},
		{"no threads", api.Program{Room: 1}, api.ErrArg},
		{"nine threads", api.Program{Codes: halts(9), Room: 1}, api.ErrArg},
		{"no room", api.Program{Codes: halts(1)}, api.ErrArg},
		{"a room below 0", api.Program{Codes: halts(1), Room: -1}, api.ErrArg},
		{"a room of 17", api.Program{Codes: halts(1), Room: 17}, api.ErrArg},
		{"a great room", api.Program{Codes: halts(1), Room: math.MaxInt}, api.ErrArg},
		{"a room far below 0", api.Program{Codes: halts(1), Room: math.MinInt}, api.ErrArg},
		{"1025 words", api.Program{Codes: halts(1), Mem: make([]uint32, 1025), Room: 1}, api.ErrLong},
		{"4001 instructions", api.Program{Codes: [][]api.Instr{make([]api.Instr, 4001)}, Room: 1}, api.ErrLong},
		{"4001 of the last one", api.Program{Codes: [][]api.Instr{{}, make([]api.Instr, 4001)}, Room: 1}, api.ErrLong},
		{"what may not stand there", api.Program{Codes: [][]api.Instr{wrong}, Room: 1}, api.ErrForm},
		{"that of the last one", api.Program{Codes: [][]api.Instr{{{}}, {{}}, {{}, wrong[0]}}, Room: 1}, api.ErrForm},
		{"a jump beyond", api.Program{Codes: [][]api.Instr{{{Op: api.Jump, K: 2}}}, Room: 1}, api.ErrForm},
		{"no room, and 1025 words", api.Program{Codes: [][]api.Instr{wrong}, Mem: make([]uint32, 1025)}, api.ErrArg},
		{"1025 words, and what may not stand there", api.Program{Codes: [][]api.Instr{wrong}, Mem: make([]uint32, 1025), Room: 1}, api.ErrLong},
		{"what may not stand there ahead of 4001", api.Program{Codes: [][]api.Instr{wrong, make([]api.Instr, 4001)}, Room: 1}, api.ErrForm},
	} {
		if m, e := New(c.p); e != c.want || m != nil {
			t.Errorf("%s: %v, %d; want none, %d", c.name, m, e, c.want)
		}
	}
}

// What may be just so is run: all threads, the least and the greatest room, all memory, the longest code.
func TestNewAtTheLimits(t *testing.T) { // 9.1, 9.2
	for _, room := range []int{1, 2, 15, 16} {
		p := api.Program{Mem: make([]uint32, 1024), Room: room}
		for range 8 {
			l := make([]api.Instr, 4000)
			for at := range l {
				l[at] = api.Instr{Op: api.Store, A: 1, B: api.None, K: uint32(1023 - at%2)}
			}
			p.Codes = append(p.Codes, l)
		}
		m := made(t, p)
		for who := range 8 {
			for n := range 20 {
				m.Pick(api.Pick{Who: who})
				if n < 16 && len(m.Buffer(who)) != min(n+1, room) && n < room {
					t.Errorf("room %d: %d entries behind %d steps", room, len(m.Buffer(who)), n+1)
				}
			}
		}
		if l := m.Threads(); len(l) != 8 || l[7] != l[0] {
			t.Errorf("room %d: %v", room, l)
		}
		for m.Threads()[7].Pc < 4000 {
			m.Pick(api.Pick{Who: 7})
		}
		m.Pick(api.Pick{Who: 7})
		if x := m.Threads()[7]; x.Status != api.Halted || x.Pc != 4000 || len(m.Buffer(7)) != room {
			t.Errorf("room %d: %v, with %v", room, x, m.Buffer(7))
		}
	}
}

func TestExample(t *testing.T) { // 9.1, 9.3: the chapter's own
	r := rigOf(t, 1, []uint32{0, 0}, "set r1 1; store r1 [0]; load r2 [1]", "set r1 1; store r1 [1]; load r2 [0]")
	r.tells("s0 s1")
	r.tells("s0 s1", api.Event{Kind: api.EvStore, Pc: 1, Value: 1}, api.Event{Kind: api.EvStore, Who: 1, Pc: 1, Addr: 1, Value: 1})
	r.tells("s0 s1", api.Event{Kind: api.EvLoad, Pc: 2, Addr: 1}, api.Event{Kind: api.EvLoad, Who: 1, Pc: 2})
	r.thread(0, 3, api.Running, 0, 1, 0)
	r.thread(1, 3, api.Running, 0, 1, 0)
	r.mem(0, 0)
	r.buffer(0, api.Entry{Addr: 0, Value: 1})
	r.buffer(1, api.Entry{Addr: 1, Value: 1})
	r.tells("f1 f0", api.Event{Kind: api.EvFlush, Who: 1, Addr: 1, Value: 1}, api.Event{Kind: api.EvFlush, Value: 1})
	r.mem(1, 1)
}

// The document's third and fourth example of the whole, as programs: what is in the buffer still isn't in memory.
func TestInTheBufferStill(t *testing.T) { // 9.1, 9.2
	r := rigOf(t, 1, []uint32{0}, "set r1 5; store r1 [0]")
	r.tells("s0 s0", api.Event{Kind: api.EvStore, Pc: 1, Value: 5})
	r.mem(0)
	r.done(false)
	r.tells("f0 s0", api.Event{Kind: api.EvFlush, Value: 5}, api.Event{Kind: api.EvHalt, Pc: 2})
	r.mem(5)
	r.done(true)
}

// A load of what the own buffer holds not at all, once, twice, and of what another one's holds.
func TestLoad(t *testing.T) { // 9.1, 9.3
	r := rigOf(t, 4, []uint32{7, 8}, "load r2 [0]; set r1 5; store r1 [0]; load r3 [0]; load r4 [1]; set r1 6; store r1 [0]; load r5 [0]; load r6 [0]; load r7 [0]", "load r1 [0]; load r2 [0]; load r3 [0]")
	ld := func(who, pc, addr int, v uint32) api.Event {
		return api.Event{Kind: api.EvLoad, Who: who, Pc: pc, Addr: addr, Value: v}
	}
	r.tells("s0", ld(0, 0, 0, 7))
	r.tells("s0 s0 s0 s0", api.Event{Kind: api.EvStore, Pc: 2, Value: 5}, ld(0, 3, 0, 5), ld(0, 4, 1, 8))
	r.tells("s0 s0 s0", api.Event{Kind: api.EvStore, Pc: 6, Value: 6}, ld(0, 7, 0, 6))
	r.tells("s1", ld(1, 0, 0, 7))
	r.buffer(0, api.Entry{Value: 5}, api.Entry{Value: 6})
	r.tells("f0 s0 s1", api.Event{Kind: api.EvFlush, Value: 5}, ld(0, 8, 0, 6), ld(1, 1, 0, 5))
	r.tells("f0 s0 s1", api.Event{Kind: api.EvFlush, Value: 6}, ld(0, 9, 0, 6), ld(1, 2, 0, 6))
	r.thread(0, 10, api.Running, 0, 6, 7, 5, 8, 6, 6, 6)
	r.thread(1, 3, api.Running, 0, 7, 5, 6)
}

// The own store in the buffer is told ahead of what another thread brought into memory later.
func TestLoadOfTheOwnAheadOfALaterOne(t *testing.T) { // 9.1, 9.3
	r := rigOf(t, 2, []uint32{0}, "set r1 5; store r1 [0]; load r2 [0]; load r3 [0]", "set r1 9; swap r1 [0]")
	r.m.Run(picks(t, "s0 s0 s1 s1"))
	r.mem(9)
	r.m.Run(picks(t, "s0"))
	r.thread(0, 3, api.Running, 0, 5, 5)
	r.m.Run(picks(t, "f0 s0"))
	r.mem(5)
	r.thread(0, 4, api.Running, 0, 5, 5, 5)
}

// A store into a full buffer flushes one entry, and stays where it is; the next step stores.
func TestStoreIntoAFullBuffer(t *testing.T) { // 9.1
	for room := 1; room <= 16; room++ {
		r := rigOf(t, room, make([]uint32, 2), "fetch r1 [1]; set r2 1; add r1 r1 r2; store r1 [0]; jump @2", "")
		r.m.Run(picks(t, "s0 s0"))
		r.seen = 1
		var held []api.Entry
		for v := uint32(1); v <= 20; v++ {
			r.tells("s0")
			if len(held) == room {
				r.tells("s0", api.Event{Kind: api.EvFlush, Value: held[0].Value})
				r.thread(0, 3, api.Running, 0, v, 1)
				r.mem(held[0].Value, 0)
				held = held[1:]
				r.buffer(0, held...)
			}
			r.tells("s0", api.Event{Kind: api.EvStore, Pc: 3, Value: v})
			r.thread(0, 4, api.Running, 0, v, 1)
			held = append(held, api.Entry{Value: v})
			r.buffer(0, held...)
			r.tells("s0")
		}
		r.buffer(1)
	}
}

// What drains flushes one entry a step, and is done when there is none; what doesn't drain goes on.
func TestDraining(t *testing.T) { // 9.1, 9.3
	own := api.Entry{Addr: 2, Value: 3}
	for text, e := range map[string]api.Event{
		"fence":         {Kind: api.EvFence},
		"swap r2 [1]":   {Kind: api.EvSwap, Addr: 1, Value: 7, Old: 4, Ok: true},
		"fetch r2 [1]":  {Kind: api.EvSwap, Addr: 1, Value: 11, Old: 4, Ok: true},
		"cas r2 r1 [1]": {Kind: api.EvSwap, Addr: 1, Value: 4, Old: 4},
		"cas r3 r1 [1]": {Kind: api.EvSwap, Addr: 1, Value: 3, Old: 4, Ok: true},
		"wait r2 [1]":   {Kind: api.EvWait, Addr: 1, Value: 4},
		"wait r3 [1]":   {Kind: api.EvWait, Addr: 1, Value: 4, Ok: true},
		"wake r2 [1]":   {Kind: api.EvWake, Addr: 1},
		"remote":        {Kind: api.EvRemote},
	} {
		r := rigOf(t, 3, []uint32{0, 4, 0}, "set r1 3; set r2 7; set r3 4; store r2 [0]; store r1 [2]; "+text, "set r1 1; store r1 [0]")
		e.Pc = 5
		r.m.Run(picks(t, "s0 s0 s0 s0 s0"))
		r.seen = 2
		was := r.m.Threads()[0]
		r.tells("s0", api.Event{Kind: api.EvFlush, Value: 7})
		r.buffer(0, own)
		r.mem(7, 4, 0)
		r.tells("s1 s1", api.Event{Kind: api.EvStore, Who: 1, Pc: 1, Value: 1})
		r.tells("s0", api.Event{Kind: api.EvFlush, Addr: 2, Value: 3})
		r.buffer(0)
		r.mem(7, 4, 3)
		if x := r.m.Threads()[0]; x != was {
			t.Errorf("%s: ahead of an empty buffer the thread is %v; was %v", text, x, was)
		}
		if text == "remote" {
			r.tells("s0", api.Event{Kind: api.EvFlush, Who: 1, Value: 1}, e)
			continue
		}
		r.tells("s0", e)
		r.buffer(1, api.Entry{Value: 1})
		if x := r.m.Threads()[0]; x.Pc != 6 {
			t.Errorf("%s: the thread is %v", text, x)
		}
	}
}

func TestNotDraining(t *testing.T) { // 9.1
	for _, text := range []string{"halt", "set r2 1", "move r2 r1", "add r2 r1 r1", "jump @0", "zero r1 @0", "some r1 @0", "load r2 [1]", "store r2 [1]", "out r1", "yield", "mark r1 6", "load r2 [2]"} {
		r := rigOf(t, 2, []uint32{0, 0}, "set r1 3; store r1 [0]; "+text)
		r.m.Run(picks(t, "s0 s0 s0"))
		r.mem(0, 0)
		if l := r.m.Buffer(0); len(l) == 0 || l[0] != (api.Entry{Value: 3}) {
			t.Errorf("%s: the buffer is %v", text, l)
		}
	}
}

// What is swapped, fetched, and found by a cas, is in memory at once; a cas that doesn't find it changes nothing.
func TestSwaps(t *testing.T) { // 9.1, 9.3
	top := uint32(math.MaxUint32)
	r := rigOf(t, 1, []uint32{4, 5, 6}, "set r1 9; swap r1 [2]; fetch r1 [2]; set r2 4294967295; fetch r2 [1]; cas r2 r1 [1]; set r3 4; cas r3 r1 [1]; out r3", "load r1 [2]; load r2 [1]")
	r.tells("s0 s0", api.Event{Kind: api.EvSwap, Pc: 1, Addr: 2, Value: 9, Old: 6, Ok: true})
	r.mem(4, 5, 9)
	r.buffer(0)
	r.thread(0, 2, api.Running, 0, 6)
	r.tells("s0", api.Event{Kind: api.EvSwap, Pc: 2, Addr: 2, Value: 15, Old: 9, Ok: true})
	r.mem(4, 5, 15)
	r.thread(0, 3, api.Running, 0, 9)
	r.tells("s0")
	r.thread(0, 4, api.Running, 0, 9, top)
	r.tells("s0", api.Event{Kind: api.EvSwap, Pc: 4, Addr: 1, Value: 4, Old: 5, Ok: true})
	r.mem(4, 4, 15)
	r.tells("s0", api.Event{Kind: api.EvSwap, Pc: 5, Addr: 1, Value: 4, Old: 4})
	r.mem(4, 4, 15)
	r.thread(0, 6, api.Running, 0, 9, 4)
	r.tells("s0 s0", api.Event{Kind: api.EvSwap, Pc: 7, Addr: 1, Value: 9, Old: 4, Ok: true})
	r.mem(4, 9, 15)
	r.thread(0, 8, api.Running, 0, 9, 4, 4)
	r.tells("s0 s1 s1", api.Event{Kind: api.EvOut, Pc: 8, Value: 4}, api.Event{Kind: api.EvLoad, Who: 1, Addr: 2, Value: 15}, api.Event{Kind: api.EvLoad, Who: 1, Pc: 1, Addr: 1, Value: 9})
}

// What is swapped where another one's buffer holds a store: memory's word counts, and that store comes over it.
func TestSwapUnderAnothersBuffer(t *testing.T) { // 9.1
	r := rigOf(t, 1, []uint32{4}, "set r1 9; swap r1 [0]", "set r1 5; store r1 [0]; load r2 [0]")
	r.tells("s1 s1 s0 s0", api.Event{Kind: api.EvStore, Who: 1, Pc: 1, Value: 5}, api.Event{Kind: api.EvSwap, Pc: 1, Value: 9, Old: 4, Ok: true})
	r.mem(9)
	r.tells("s1 f1", api.Event{Kind: api.EvLoad, Who: 1, Pc: 2, Value: 5}, api.Event{Kind: api.EvFlush, Who: 1, Value: 5})
	r.mem(5)
}

// An address that goes round, the last word, and the first one beyond.
func TestAddresses(t *testing.T) { // 9.1
	r := rigOf(t, 1, []uint32{4, 5}, "set r1 4294967295; load r2 [r1+2]; store r2 [r1+1]; load r3 [2]", "set r1 1; store r1 [r1+1]")
	r.tells("s0 s0 s0 s0",
		api.Event{Kind: api.EvLoad, Pc: 1, Addr: 1, Value: 5},
		api.Event{Kind: api.EvStore, Pc: 2, Addr: 0, Value: 5},
		api.Event{Kind: api.EvFault, Pc: 3})
	r.thread(0, 3, api.Faulted, 0, math.MaxUint32, 5)
	r.buffer(0, api.Entry{Value: 5})
	r.tells("s1 s1", api.Event{Kind: api.EvFault, Who: 1, Pc: 1})
	r.thread(1, 1, api.Faulted, 0, 1)
	r.buffer(1)
	r.mem(4, 5)
}

// A program whose threads have no code halts; memory of no word is beyond all addresses.
func TestNothing(t *testing.T) { // 9.1, 9.2
	r := rigOf(t, 1, nil, "", "load r1 [0]", "store r1 [0]", "fence", "wake r1 [0]", "wait r1 [0]", "remote", "swap r1 [0]")
	r.mem()
	r.done(false)
	r.tells("s0", api.Event{Kind: api.EvHalt})
	r.thread(0, 0, api.Halted)
	for _, who := range []int{1, 2, 4, 5, 7} {
		r.tells(fmt.Sprintf("s%d", who), api.Event{Kind: api.EvFault, Who: who})
		r.thread(who, 0, api.Faulted)
	}
	r.tells("s3 s6", api.Event{Kind: api.EvFence, Who: 3}, api.Event{Kind: api.EvRemote, Who: 6})
	r.done(false)
	r.tells("s3 s6", api.Event{Kind: api.EvHalt, Who: 3, Pc: 1}, api.Event{Kind: api.EvHalt, Who: 6, Pc: 1})
	r.mem()
	r.sleepers()
	r.done(true)
	r.still("s0 s1 s2 s3 s4 s5 s6 s7 f0 f1 f2 f3 f4 f5 f6 f7 r0 r1 r2 r3 r4 r5 r6 r7")
}

// A pick of a thread that there isn't, of whatever kind, does nothing.
func TestPickOfNoThread(t *testing.T) { // 9.1
	for threads := 1; threads <= 8; threads++ {
		texts := slices.Repeat([]string{"set r1 1; store r1 [0]; wait r2 [1]; out r1"}, threads)
		r := rigOf(t, 2, make([]uint32, 2), texts...)
		for n := range 6 {
			for kind := range 3 {
				for _, who := range append([]int{threads, threads + 1}, strangers...) {
					if who < 0 || who >= threads {
						r.stays(api.Pick{Kind: kind, Who: who})
					}
				}
			}
			for who := range threads {
				if n < 2 || who > 0 {
					r.m.Pick(api.Pick{Who: who})
				}
			}
		}
	}
}

func TestPickOfAnotherKind(t *testing.T) { // 9.1
	r := rigOf(t, 2, make([]uint32, 2), "set r1 1; store r1 [0]; out r1", "wait r1 [1]")
	r.m.Run(picks(t, "s0 s0 s1"))
	for _, kind := range []int{-1, -2, -3, 3, 4, 5, 8, 256, 257, 258, 1 << 32, 1<<32 + 1, 1<<32 + 2, -1 << 32, math.MaxInt32, math.MinInt32, math.MaxInt, math.MinInt} {
		for _, who := range append([]int{0, 1, 2, 3}, strangers...) {
			r.stays(api.Pick{Kind: kind, Who: who})
		}
	}
}

// A step of one who is Halted, Faulted or Blocked changes nothing, nor does a rousing of one who doesn't sleep; but the buffer of one who has ended is flushed.
func TestPicksThatChangeNothing(t *testing.T) { // 9.1, 9.3
	r := rigOf(t, 2, make([]uint32, 3), "set r1 1; store r1 [0]; halt; out r1", "set r1 2; store r1 [1]; load r1 [3]; out r1", "wait r1 [2]; out r1", "out r1")
	r.still("r0 r1 r2 r3 f0 f1 f2 f3")
	r.m.Run(picks(t, "s0 s0 s0 s1 s1 s1 s2"))
	r.thread(0, 2, api.Halted, 0, 1)
	r.thread(1, 2, api.Faulted, 0, 2)
	r.thread(2, 1, api.Blocked)
	r.still("s0 s1 s2 s0 s1 s2 r0 r1 r3 f2 f3")
	r.seen = len(r.m.Events())
	r.tells("f1 f0", api.Event{Kind: api.EvFlush, Who: 1, Addr: 1, Value: 2}, api.Event{Kind: api.EvFlush, Value: 1})
	r.still("f0 f1 s0 s1 s2 r0 r1 r3")
	r.mem(1, 2, 0)
	r.thread(0, 2, api.Halted, 0, 1)
	r.thread(1, 2, api.Faulted, 0, 2)
}

// A flush takes the oldest entry, one a pick.
func TestFlush(t *testing.T) { // 9.1, 9.3
	r := rigOf(t, 3, make([]uint32, 3), "set r1 1; store r1 [2]; set r1 2; store r1 [0]; set r1 3; store r1 [2]", "set r1 9; store r1 [2]; load r2 [2]")
	r.m.Run(picks(t, "s0 s0 s0 s0 s0 s0 s1 s1"))
	r.seen = 4
	r.buffer(0, api.Entry{Addr: 2, Value: 1}, api.Entry{Addr: 0, Value: 2}, api.Entry{Addr: 2, Value: 3})
	r.tells("f0", api.Event{Kind: api.EvFlush, Addr: 2, Value: 1})
	r.mem(0, 0, 1)
	r.buffer(0, api.Entry{Addr: 0, Value: 2}, api.Entry{Addr: 2, Value: 3})
	r.tells("f1", api.Event{Kind: api.EvFlush, Who: 1, Addr: 2, Value: 9})
	r.mem(0, 0, 9)
	r.tells("f0", api.Event{Kind: api.EvFlush, Value: 2})
	r.mem(2, 0, 9)
	r.tells("f0", api.Event{Kind: api.EvFlush, Addr: 2, Value: 3})
	r.mem(2, 0, 3)
	r.buffer(0)
	r.still("f0 f1")
}

func TestWaitAndRouse(t *testing.T) { // 9.1, 9.2
	r := rigOf(t, 1, []uint32{0, 6}, "set r1 6; wait r1 [1]; out r1; wait r1 [1]; out r1")
	r.tells("s0 s0", api.Event{Kind: api.EvWait, Pc: 1, Addr: 1, Value: 6, Ok: true})
	r.thread(0, 2, api.Blocked, 0, 0)
	r.sleepers(kern.Sleeper{Who: 0, Addr: 1})
	r.done(false)
	r.still("s0 f0")
	r.tells("r0", api.Event{Kind: api.EvRouse})
	r.thread(0, 2, api.Running, 0, 0)
	r.sleepers()
	r.still("r0")
	r.tells("s0 s0", api.Event{Kind: api.EvOut, Pc: 2}, api.Event{Kind: api.EvWait, Pc: 3, Addr: 1, Value: 6})
	r.thread(0, 4, api.Running, 0, 1)
	r.sleepers()
	r.still("r0")
	r.tells("s0 s0", api.Event{Kind: api.EvOut, Pc: 4, Value: 1}, api.Event{Kind: api.EvHalt, Pc: 5})
	r.done(true)
}

// Fewer are woken than sleep there, as many, and more; each goes on; who fell asleep first is first.
func TestWake(t *testing.T) { // 9.1
	order := []kern.Sleeper{{Who: 5, Addr: 1}, {Who: 1, Addr: 1}, {Who: 7, Addr: 2}, {Who: 3, Addr: 1}, {Who: 2, Addr: 2}}
	for _, c := range []struct {
		n     string
		woken []int
	}{{"0", nil}, {"1", []int{5}}, {"2", []int{5, 1}}, {"3", []int{5, 1, 3}}, {"4", []int{5, 1, 3}}, {"8", []int{5, 1, 3}}, {"4294967295", []int{5, 1, 3}}} {
		texts := make([]string, 8)
		texts[0] = "set r1 " + c.n + "; wake r1 [1]; wake r1 [0]"
		for _, s := range order {
			texts[s.Who] = fmt.Sprintf("wait r1 [%d]; out r1", s.Addr)
		}
		r := rigOf(t, 1, make([]uint32, 3), texts...)
		for n, s := range order {
			r.tells(fmt.Sprintf("s%d", s.Who), api.Event{Kind: api.EvWait, Who: s.Who, Addr: s.Addr, Ok: true})
			r.sleepers(order[:n+1]...)
		}
		n := uint32(len(c.woken))
		r.tells("s0 s0", api.Event{Kind: api.EvWake, Pc: 1, Addr: 1, Value: n})
		r.thread(0, 2, api.Running, 0, n)
		var left []kern.Sleeper
		for _, s := range order {
			if slices.Contains(c.woken, s.Who) {
				r.thread(s.Who, 1, api.Running)
				continue
			}
			r.thread(s.Who, 1, api.Blocked)
			left = append(left, s)
		}
		r.sleepers(left...)
		r.tells("s0", api.Event{Kind: api.EvWake, Pc: 2})
		r.thread(0, 3, api.Running)
		r.sleepers(left...)
		for _, who := range c.woken {
			r.tells(fmt.Sprintf("s%d s%d", who, who), api.Event{Kind: api.EvOut, Who: who, Pc: 1}, api.Event{Kind: api.EvHalt, Who: who, Pc: 2})
		}
	}
}

// Who was woken may fall asleep again, behind all others.
func TestSleepAgain(t *testing.T) { // 9.1, 9.2
	r := rigOf(t, 1, []uint32{0}, "wait r1 [0]; jump @0", "wait r1 [0]", "set r1 1; wake r1 [0]; jump @0")
	r.m.Run(picks(t, "s0 s1"))
	r.sleepers(kern.Sleeper{Who: 0}, kern.Sleeper{Who: 1})
	r.m.Run(picks(t, "s2 s2 s0 s0"))
	r.sleepers(kern.Sleeper{Who: 1}, kern.Sleeper{Who: 0})
	r.m.Run(picks(t, "r1 s2 s2 s2"))
	r.sleepers()
	r.thread(0, 1, api.Running)
	r.thread(1, 1, api.Running)
	r.thread(2, 2, api.Running, 0, 1)
}

// Who asks for it has a buffer that is empty; all others' are flushed, thread by thread, each the oldest entry first.
func TestRemote(t *testing.T) { // 9.1
	r := rigOf(t, 3, make([]uint32, 4),
		"set r1 1; store r1 [0]; store r1 [1]",
		"set r1 2; store r1 [3]; remote; out r1",
		"out r1",
		"set r1 4; store r1 [1]; set r1 5; store r1 [1]; store r1 [2]; load r2 [1]")
	r.m.Run(picks(t, "s3 s3 s3 s3 s3 s1 s1 s0 s0 s0"))
	r.seen = 6
	r.tells("s1", api.Event{Kind: api.EvFlush, Who: 1, Addr: 3, Value: 2})
	r.thread(1, 2, api.Running, 0, 2)
	r.mem(0, 0, 0, 2)
	r.tells("s1",
		api.Event{Kind: api.EvFlush, Who: 0, Addr: 0, Value: 1},
		api.Event{Kind: api.EvFlush, Who: 0, Addr: 1, Value: 1},
		api.Event{Kind: api.EvFlush, Who: 3, Addr: 1, Value: 4},
		api.Event{Kind: api.EvFlush, Who: 3, Addr: 1, Value: 5},
		api.Event{Kind: api.EvFlush, Who: 3, Addr: 2, Value: 5},
		api.Event{Kind: api.EvRemote, Who: 1, Pc: 2})
	r.thread(1, 3, api.Running, 0, 2)
	r.mem(1, 5, 5, 2)
	for who := range 4 {
		r.buffer(who)
	}
	r.tells("s3", api.Event{Kind: api.EvLoad, Who: 3, Pc: 5, Addr: 1, Value: 5})
}

// The buffers of those who have ended, and of those who sleep, are flushed as well; none of them does anything else.
func TestRemoteOfThoseWhoDoNothing(t *testing.T) { // 9.1
	r := rigOf(t, 16, make([]uint32, 3), "set r1 1; store r1 [0]; halt", "set r1 2; store r1 [1]; load r1 [9]", "remote", "wait r1 [2]; set r1 3; store r1 [2]")
	r.m.Run(picks(t, "s0 s0 s0 s1 s1 s1 s3"))
	was := r.m.Threads()
	r.seen = len(r.m.Events())
	r.tells("s2", api.Event{Kind: api.EvFlush, Value: 1}, api.Event{Kind: api.EvFlush, Who: 1, Addr: 1, Value: 2}, api.Event{Kind: api.EvRemote, Who: 2})
	is := r.m.Threads()
	if was[2].Pc = 1; !slices.Equal(is, was) {
		t.Errorf("the threads are %v; want %v", is, was)
	}
	r.sleepers(kern.Sleeper{Who: 3, Addr: 2})
}

func TestBufferOfNoThread(t *testing.T) { // 9.2
	for threads := 1; threads <= 8; threads++ {
		r := rigOf(t, 2, make([]uint32, 2), slices.Repeat([]string{"store r1 [1]; store r1 [0]"}, threads)...)
		for who := range threads {
			r.m.Pick(api.Pick{Who: who})
		}
		for _, who := range append([]int{threads, threads + 1}, strangers...) {
			r.buffer(who)
		}
		r.buffer(threads-1, api.Entry{Addr: 1})
	}
}

func TestDone(t *testing.T) { // 9.2
	r := rigOf(t, 2, []uint32{0}, "store r1 [0]", "wait r1 [0]", "load r1 [1]", "halt")
	r.done(false)
	for _, c := range []struct {
		picks string
		want  bool
	}{{"s3 s2", false}, {"s0 s0", false}, {"s1", false}, {"f0", false}, {"r1", false}, {"s1", true}, {"s0 s1 f0 r1", true}} {
		r.m.Run(picks(t, c.picks))
		r.done(c.want)
	}
	r = rigOf(t, 2, []uint32{0}, "store r1 [0]; store r1 [0]", "")
	for _, c := range []struct {
		picks string
		want  bool
	}{{"s0 s0 s0", false}, {"s1", false}, {"f0", false}, {"f1", false}, {"f0", true}} {
		r.m.Run(picks(t, c.picks))
		r.done(c.want)
	}
}

func TestRun(t *testing.T) { // 9.1
	p := program(t, 2, make([]uint32, 2), "set r1 1; store r1 [0]; fence; load r2 [1]; wake r1 [0]", "wait r2 [0]; set r1 1; store r1 [1]; remote; load r2 [0]")
	l := picks(t, "s1 s0 s0 s0 f1 s0 r1 s1 s0 s0 s1 s1 s1 f0 s1 s0 s1 s1")
	one, all := made(t, p), made(t, p)
	for _, x := range l {
		one.Pick(x)
	}
	kept := slices.Clone(l)
	all.Run(l)
	is(t, all, stateOf(one))
	if !all.Done() || !slices.Equal(l, kept) {
		t.Errorf("it is %v by %v", stateOf(all), l)
	}
	all.Run(nil)
	all.Run([]api.Pick{})
	is(t, all, stateOf(one))
}

// Two machines of one program have nothing to do with each other.
func TestTwoMachines(t *testing.T) { // 9.1, and rule 6
	p := program(t, 2, make([]uint32, 2), "set r1 1; store r1 [0]; fence; wait r2 [1]")
	l := picks(t, "s0 s0 s0 s0 s0")
	one, other := made(t, p), made(t, p)
	fresh := stateOf(other)
	one.Run(l)
	is(t, other, fresh)
	other.Run(l)
	is(t, other, stateOf(one))
}

// A program that is handed in isn't changed, and isn't kept; nor is what stands in the room behind it.
func TestHandedIn(t *testing.T) { // 9.1, and rule 4
	text := "set r1 7; store r1 [0]; fence; wait r2 [1]; swap r1 [1]; out r1"
	p := program(t, 2, []uint32{0, 0}, text, text)
	p.Mem = append(make([]uint32, 0, 8), p.Mem...)
	for at, l := range p.Codes {
		p.Codes[at] = append(make([]api.Instr, 0, 16), l...)
	}
	m := made(t, p)
	w := newTold(program(t, 2, []uint32{0, 0}, text, text))
	n := anyNumber(1)
	for range 40 {
		x := n.anyPick(2)
		m.Pick(x)
		w.pick(x)
		is(t, m, w.now())
		fill(p.Mem, 99)
		fill(p.Codes[0], api.Instr{Op: api.Out, A: 3})
		fill(p.Codes[1], api.Instr{Op: -1})
	}
	p = program(t, 2, []uint32{1, 2}, text)
	p.Codes = append(make([][]api.Instr, 0, 4), p.Codes...)
	kept := slices.Clone(p.Codes[0])
	m = made(t, p)
	m.Run(slices.Repeat(picks(t, "s0 f0 r0"), 20))
	if !slices.Equal(p.Mem, []uint32{1, 2}) || len(p.Codes) != 1 || p.Codes[:2][1] != nil || !slices.Equal(p.Codes[0], kept) || p.Room != 2 {
		t.Errorf("the program is %v now", p)
	}
}

// fill puts one thing everywhere into a list, spare room included.
func fill[T any](l []T, x T) {
	l = l[:cap(l)]
	for at := range l {
		l[at] = x
	}
}

// What is handed out is new memory: whatever is done with it changes nothing, and it stays as it is.
func TestHandedOut(t *testing.T) { // 9.2, and rule 4
	r := rigOf(t, 4, make([]uint32, 3), "set r1 1; store r1 [0]; store r1 [1]; store r1 [2]; out r1", "wait r1 [2]; out r1", "wait r1 [1]")
	for _, x := range picks(t, "s0 s0 s1 s0 s2 s0 s0 f0 r1 f0 s1") {
		r.m.Pick(x)
		was := stateOf(r.m).copied()
		threads, mem, sleepers, events, entries := r.m.Threads(), r.m.Mem(), r.m.Sleepers(), r.m.Events(), r.m.Buffer(0)
		fill(threads, api.Thread{Pc: 99, Status: 3})
		fill(mem, 99)
		fill(sleepers, kern.Sleeper{Who: 7, Addr: 99})
		fill(events, api.Event{Kind: 99})
		fill(entries, api.Entry{Addr: 99})
		is(t, r.m, was)
	}
	early := stateOf(r.m)
	kept := early.copied()
	r.m.Run(picks(t, "s0 f0 s1 s2 r2 s2 s2 f0"))
	if !early.same(kept) {
		t.Errorf("what was handed out changed: %v; was %v", early, kept)
	}
}
