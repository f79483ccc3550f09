package sc

import (
	"fmt"
	"math"
	"slices"
	"testing"

	"deadlatch/api"
	"deadlatch/kern"
)

func TestNew(t *testing.T) { // 10.1
	m := made(t, program(t, 3, []uint32{4, 5, 6}, "out r1", "", "halt"))
	is(t, m, state{threads: make([]api.Thread, 3), mem: []uint32{4, 5, 6}})
}

// What is wrong with a program is told, and there is no machine: its room has to be right, though there are no buffers.
func TestNewOfWrongPrograms(t *testing.T) { // 10.1
	halts := func(n int) [][]api.Instr { return make([][]api.Instr, n) }
	wrong := []api.Instr{{Op: api.Out, A: 8}}
	for _, c := range []struct {
		name string
		p    api.Program
		want api.Errno
	}{
		{"the zero one", api.Program{}, api.ErrArg},
		{"no threads", api.Program{Room: 1}, api.ErrArg},
		{"nine threads", api.Program{Codes: halts(9), Room: 1}, api.ErrArg},
		{"no room", api.Program{Codes: halts(1)}, api.ErrArg},
		{"a room below 0", api.Program{Codes: halts(1), Room: -1}, api.ErrArg},
		{"a room of 17", api.Program{Codes: halts(1), Room: 17}, api.ErrArg},
		{"a great room", api.Program{Codes: halts(1), Room: math.MaxInt}, api.ErrArg},
		{"a room far below 0", api.Program{Codes: halts(1), Room: math.MinInt}, api.ErrArg},
		{"1025 words", api.Program{Codes: halts(1), Mem: make([]uint32, 1025), Room: 1}, api.ErrLong},
		{"4001 instructions", api.Program{Codes: [][]api.Instr{make([]api.Instr, 4001)}, Room: 1}, api.ErrLong},
		{"4001 of the last one", api.Program{Codes: [][]api.Instr{{}, make([]api.Instr, 4001)}, Room: 1}, api.ErrLong},
		{"what may not stand there", api.Program{Codes: [][]api.Instr{wrong}, Room: 1}, api.ErrForm},
		{"that of the last one", api.Program{Codes: [][]api.Instr{{{}}, {{}}, {{}, wrong[0]}}, Room: 1}, api.ErrForm},
		{"a jump beyond", api.Program{Codes: [][]api.Instr{{{Op: api.Jump, K: 2}}}, Room: 1}, api.ErrForm},
		{"no room, and 1025 words", api.Program{Codes: [][]api.Instr{wrong}, Mem: make([]uint32, 1025)}, api.ErrArg},
		{"1025 words, and what may not stand there", api.Program{Codes: [][]api.Instr{wrong}, Mem: make([]uint32, 1025), Room: 1}, api.ErrLong},
		{"what may not stand there ahead of 4001", api.Program{Codes: [][]api.Instr{wrong, make([]api.Instr, 4001)}, Room: 1}, api.ErrForm},
	} {
		if m, e := New(c.p); e != c.want || m != nil {
			t.Errorf("%s: %v, %d; want none, %d", c.name, m, e, c.want)
		}
	}
}

// What may be just so is run: all threads, the least and the greatest room, all memory, the longest code.
func TestNewAtTheLimits(t *testing.T) { // 10.1
	for _, room := range []int{1, 2, 15, 16} {
		p := api.Program{Mem: make([]uint32, 1024), Room: room}
		for range 8 {
			l := make([]api.Instr, 4000)
			for at := range l {
				l[at] = api.Instr{Op: api.Fetch, A: 1, B: api.None, K: 1023}
			}
			l[0] = api.Instr{Op: api.Set, A: 1, K: 1}
			p.Codes = append(p.Codes, l)
		}
		m := made(t, p)
		for m.Thread(7).Pc < 4000 {
			m.Pick(api.Pick{Who: 7})
		}
		m.Pick(api.Pick{Who: 7})
		l := m.Threads()
		if len(l) != 8 || l[0] != (api.Thread{}) || l[7].Status != api.Halted || l[7].Pc != 4000 || m.Count() != 4000 {
			t.Errorf("room %d: %v, %d events", room, l, m.Count())
		}
		if last := m.Event(3999); last != (api.Event{Kind: api.EvHalt, Who: 7, Pc: 4000}) {
			t.Errorf("room %d: %+v is last", room, last)
		}
		if e := m.Event(3998); e.Addr != 1023 || e.Value != m.Mem()[1023] {
			t.Errorf("room %d: %+v, and the word is %d", room, e, m.Mem()[1023])
		}
	}
}

func TestExample(t *testing.T) { // 10.1, 10.2: the chapter's own, by the turns by which both load 0 where there are buffers
	r := rigOf(t, []uint32{0, 0}, "set r1 1; store r1 [0]; load r2 [1]", "set r1 1; store r1 [1]; load r2 [0]")
	r.tells("s0 s1")
	r.tells("s0", api.Event{Kind: api.EvStore, Pc: 1, Value: 1})
	r.mem(1, 0)
	r.tells("s1", api.Event{Kind: api.EvStore, Who: 1, Pc: 1, Addr: 1, Value: 1})
	r.mem(1, 1)
	r.tells("s0 s1", api.Event{Kind: api.EvLoad, Pc: 2, Addr: 1, Value: 1}, api.Event{Kind: api.EvLoad, Who: 1, Pc: 2, Value: 1})
	r.thread(0, 3, api.Running, 0, 1, 1)
	r.thread(1, 3, api.Running, 0, 1, 1)
	r.still("f0 f1")
}

// What one stores is loaded by all at once, and what another one stores later is loaded by it.
func TestLoadAndStore(t *testing.T) { // 10.1, 10.2
	r := rigOf(t, []uint32{7, 8}, "load r2 [0]; set r1 5; store r1 [0]; load r3 [0]; load r4 [1]; load r5 [0]", "load r1 [0]; load r2 [0]; set r1 9; store r1 [0]")
	ld := func(who, pc, addr int, v uint32) api.Event {
		return api.Event{Kind: api.EvLoad, Who: who, Pc: pc, Addr: addr, Value: v}
	}
	r.tells("s0 s1", ld(0, 0, 0, 7), ld(1, 0, 0, 7))
	r.tells("s0 s0", api.Event{Kind: api.EvStore, Pc: 2, Value: 5})
	r.mem(5, 8)
	r.tells("s1 s0 s0", ld(1, 1, 0, 5), ld(0, 3, 0, 5), ld(0, 4, 1, 8))
	r.tells("s1 s1", api.Event{Kind: api.EvStore, Who: 1, Pc: 3, Value: 9})
	r.mem(9, 8)
	r.tells("s0", ld(0, 5, 0, 9))
	r.thread(0, 6, api.Running, 0, 5, 7, 5, 8, 9)
	r.thread(1, 4, api.Running, 0, 9, 5)
}

// There is room for any number of stores, whatever the program's room: each step does one.
func TestRoomForAll(t *testing.T) { // 10.1
	for _, room := range []int{1, 16} {
		r := &rig{T: t, m: made(t, program(t, room, make([]uint32, 2), "set r2 1; add r1 r1 r2; store r1 [1]; jump @1"))}
		r.tells("s0")
		for v := uint32(1); v <= 40; v++ {
			r.tells("s0 s0 s0", api.Event{Kind: api.EvStore, Pc: 2, Addr: 1, Value: v})
			r.thread(0, 1, api.Running, 0, v, 1)
			r.mem(0, v)
		}
	}
}

// What drains finds nothing to be flushed: right behind a store it is done by one step, and tells nothing else.
func TestDraining(t *testing.T) { // 10.1
	for text, e := range map[string]api.Event{
		"fence":         {Kind: api.EvFence},
		"swap r2 [1]":   {Kind: api.EvSwap, Addr: 1, Value: 7, Old: 4, Ok: true},
		"fetch r2 [1]":  {Kind: api.EvSwap, Addr: 1, Value: 11, Old: 4, Ok: true},
		"cas r2 r1 [1]": {Kind: api.EvSwap, Addr: 1, Value: 4, Old: 4},
		"cas r3 r1 [1]": {Kind: api.EvSwap, Addr: 1, Value: 3, Old: 4, Ok: true},
		"wait r2 [1]":   {Kind: api.EvWait, Addr: 1, Value: 4},
		"wait r3 [1]":   {Kind: api.EvWait, Addr: 1, Value: 4, Ok: true},
		"wake r2 [1]":   {Kind: api.EvWake, Addr: 1},
		"remote":        {Kind: api.EvRemote},
	} {
		r := rigOf(t, []uint32{0, 4, 0}, "set r1 3; set r2 7; set r3 4; store r2 [0]; store r1 [2]; "+text)
		e.Pc = 5
		r.tells("s0 s0 s0 s0 s0", api.Event{Kind: api.EvStore, Pc: 3, Value: 7}, api.Event{Kind: api.EvStore, Pc: 4, Addr: 2, Value: 3})
		r.tells("s0", e)
		if x := r.m.Thread(0); x.Pc != 6 {
			t.Errorf("%s: the thread is %v", text, x)
		}
		word := uint32(4)
		if e.Kind == api.EvSwap {
			word = e.Value
		}
		r.mem(7, word, 3)
	}
}

// What is swapped, fetched, and found by a cas, is in memory at once; a cas that doesn't find it changes nothing.
func TestSwaps(t *testing.T) { // 10.1, 10.2
	top := uint32(math.MaxUint32)
	r := rigOf(t, []uint32{4, 5, 6}, "set r1 9; swap r1 [2]; fetch r1 [2]; set r2 4294967295; fetch r2 [1]; cas r2 r1 [1]; set r3 4; cas r3 r1 [1]; out r3", "load r1 [2]; load r2 [1]")
	r.tells("s0 s0", api.Event{Kind: api.EvSwap, Pc: 1, Addr: 2, Value: 9, Old: 6, Ok: true})
	r.mem(4, 5, 9)
	r.thread(0, 2, api.Running, 0, 6)
	r.tells("s0", api.Event{Kind: api.EvSwap, Pc: 2, Addr: 2, Value: 15, Old: 9, Ok: true})
	r.mem(4, 5, 15)
	r.thread(0, 3, api.Running, 0, 9)
	r.tells("s0")
	r.thread(0, 4, api.Running, 0, 9, top)
	r.tells("s0", api.Event{Kind: api.EvSwap, Pc: 4, Addr: 1, Value: 4, Old: 5, Ok: true})
	r.mem(4, 4, 15)
	r.tells("s0", api.Event{Kind: api.EvSwap, Pc: 5, Addr: 1, Value: 4, Old: 4})
	r.mem(4, 4, 15)
	r.thread(0, 6, api.Running, 0, 9, 4)
	r.tells("s0 s0", api.Event{Kind: api.EvSwap, Pc: 7, Addr: 1, Value: 9, Old: 4, Ok: true})
	r.mem(4, 9, 15)
	r.thread(0, 8, api.Running, 0, 9, 4, 4)
	r.tells("s0 s1 s1", api.Event{Kind: api.EvOut, Pc: 8, Value: 4}, api.Event{Kind: api.EvLoad, Who: 1, Addr: 2, Value: 15}, api.Event{Kind: api.EvLoad, Who: 1, Pc: 1, Addr: 1, Value: 9})
}

// A remote has nothing to flush: it tells itself alone, and nobody else's thread does anything, whatever became of it.
func TestRemote(t *testing.T) { // 10.1
	r := rigOf(t, make([]uint32, 3), "set r1 1; store r1 [0]; halt", "set r1 2; store r1 [1]; load r1 [9]", "remote; out r1", "wait r1 [2]; out r1", "store r1 [2]")
	r.m.Run(picks(t, "s0 s0 s0 s1 s1 s1 s3 s4"))
	was := r.m.Threads()
	r.seen = r.m.Count()
	r.tells("s2", api.Event{Kind: api.EvRemote, Who: 2})
	is := r.m.Threads()
	if was[2].Pc = 1; !slices.Equal(is, was) {
		t.Errorf("the threads are %v; want %v", is, was)
	}
	r.mem(1, 2, 0)
	r.sleepers(kern.Sleeper{Who: 3, Addr: 2})
}

// An address that goes round, the last word, and the first one beyond.
func TestAddresses(t *testing.T) { // 10.1
	r := rigOf(t, []uint32{4, 5}, "set r1 4294967295; load r2 [r1+2]; store r2 [r1+1]; load r3 [2]", "set r1 1; store r1 [r1+1]")
	r.tells("s0 s0 s0 s0",
		api.Event{Kind: api.EvLoad, Pc: 1, Addr: 1, Value: 5},
		api.Event{Kind: api.EvStore, Pc: 2, Addr: 0, Value: 5},
		api.Event{Kind: api.EvFault, Pc: 3})
	r.thread(0, 3, api.Faulted, 0, math.MaxUint32, 5)
	r.mem(5, 5)
	r.tells("s1 s1", api.Event{Kind: api.EvFault, Who: 1, Pc: 1})
	r.thread(1, 1, api.Faulted, 0, 1)
	r.mem(5, 5)
}

// A program whose threads have no code halts; memory of no word is beyond all addresses.
func TestNothing(t *testing.T) { // 10.1
	r := rigOf(t, nil, "", "load r1 [0]", "store r1 [0]", "fence", "wake r1 [0]", "wait r1 [0]", "remote", "swap r1 [0]")
	r.mem()
	r.done(false)
	r.tells("s0", api.Event{Kind: api.EvHalt})
	r.thread(0, 0, api.Halted)
	for _, who := range []int{1, 2, 4, 5, 7} {
		r.tells(fmt.Sprintf("s%d", who), api.Event{Kind: api.EvFault, Who: who})
		r.thread(who, 0, api.Faulted)
	}
	r.tells("s3 s6", api.Event{Kind: api.EvFence, Who: 3}, api.Event{Kind: api.EvRemote, Who: 6})
	r.done(false)
	r.tells("s3 s6", api.Event{Kind: api.EvHalt, Who: 3, Pc: 1}, api.Event{Kind: api.EvHalt, Who: 6, Pc: 1})
	r.mem()
	r.sleepers()
	r.done(true)
	r.still("s0 s1 s2 s3 s4 s5 s6 s7 f0 f1 f2 f3 f4 f5 f6 f7 r0 r1 r2 r3 r4 r5 r6 r7")
}

// A pick of a thread that there isn't, of whatever kind, does nothing.
func TestPickOfNoThread(t *testing.T) { // 10.1
	for threads := 1; threads <= 8; threads++ {
		texts := slices.Repeat([]string{"set r1 1; store r1 [0]; wait r2 [1]; out r1"}, threads)
		r := rigOf(t, make([]uint32, 2), texts...)
		for n := range 6 {
			for kind := range 3 {
				for _, who := range append([]int{threads, threads + 1}, strangers...) {
					if who < 0 || who >= threads {
						r.stays(api.Pick{Kind: kind, Who: who})
					}
				}
			}
			for who := range threads {
				if n < 2 || who > 0 {
					r.m.Pick(api.Pick{Who: who})
				}
			}
		}
	}
}

func TestPickOfAnotherKind(t *testing.T) { // 10.1
	r := rigOf(t, make([]uint32, 2), "set r1 1; store r1 [0]; out r1", "wait r1 [1]")
	r.m.Run(picks(t, "s0 s0 s1"))
	for _, kind := range []int{-1, -2, -3, 3, 4, 5, 8, 256, 257, 258, 1 << 32, 1<<32 + 1, 1<<32 + 2, -1 << 32, math.MaxInt32, math.MinInt32, math.MaxInt, math.MinInt} {
		for _, who := range append([]int{0, 1, 2, 3}, strangers...) {
			r.stays(api.Pick{Kind: kind, Who: who})
		}
	}
}

// A step of one who is Halted, Faulted or Blocked changes nothing, nor does a rousing of one who doesn't sleep, nor any flush.
func TestPicksThatChangeNothing(t *testing.T) { // 10.1
	r := rigOf(t, make([]uint32, 3), "set r1 1; store r1 [0]; halt; out r1", "set r1 2; store r1 [1]; load r1 [3]; out r1", "wait r1 [2]; out r1", "out r1")
	r.still("r0 r1 r2 r3 f0 f1 f2 f3")
	r.m.Run(picks(t, "s0 s0 s1 s1"))
	r.still("f0 f1 f2 f3 r0 r1 r2 r3")
	r.m.Run(picks(t, "s0 s1 s2"))
	r.thread(0, 2, api.Halted, 0, 1)
	r.thread(1, 2, api.Faulted, 0, 2)
	r.thread(2, 1, api.Blocked)
	r.still("s0 s1 s2 s0 s1 s2 r0 r1 r3 f0 f1 f2 f3")
	r.mem(1, 2, 0)
}

func TestWaitAndRouse(t *testing.T) { // 10.1
	r := rigOf(t, []uint32{0, 6}, "set r1 6; wait r1 [1]; out r1; wait r1 [1]; out r1")
	r.tells("s0 s0", api.Event{Kind: api.EvWait, Pc: 1, Addr: 1, Value: 6, Ok: true})
	r.thread(0, 2, api.Blocked, 0, 0)
	r.sleepers(kern.Sleeper{Who: 0, Addr: 1})
	r.done(false)
	r.still("s0 f0")
	r.tells("r0", api.Event{Kind: api.EvRouse})
	r.thread(0, 2, api.Running, 0, 0)
	r.sleepers()
	r.still("r0")
	r.tells("s0 s0", api.Event{Kind: api.EvOut, Pc: 2}, api.Event{Kind: api.EvWait, Pc: 3, Addr: 1, Value: 6})
	r.thread(0, 4, api.Running, 0, 1)
	r.sleepers()
	r.still("r0")
	r.tells("s0 s0", api.Event{Kind: api.EvOut, Pc: 4, Value: 1}, api.Event{Kind: api.EvHalt, Pc: 5})
	r.done(true)
}

// A rousing is told of whom it rouses, and rouses nobody else.
func TestRouseOfOneOfMany(t *testing.T) { // 10.1
	r := rigOf(t, []uint32{0}, "wait r1 [0]", "wait r1 [0]", "wait r1 [0]")
	r.m.Run(picks(t, "s2 s0 s1"))
	r.seen = 3
	r.tells("r0", api.Event{Kind: api.EvRouse, Who: 0})
	r.sleepers(kern.Sleeper{Who: 2}, kern.Sleeper{Who: 1})
	r.tells("r2", api.Event{Kind: api.EvRouse, Who: 2})
	r.sleepers(kern.Sleeper{Who: 1})
	r.thread(0, 1, api.Running)
	r.thread(1, 1, api.Blocked)
	r.thread(2, 1, api.Running)
}

// Fewer are woken than sleep there, as many, and more; each goes on; who fell asleep first is first.
func TestWake(t *testing.T) { // 10.1
	order := []kern.Sleeper{{Who: 5, Addr: 1}, {Who: 1, Addr: 1}, {Who: 7, Addr: 2}, {Who: 3, Addr: 1}, {Who: 2, Addr: 2}}
	for _, c := range []struct {
		n     string
		woken []int
	}{{"0", nil}, {"1", []int{5}}, {"2", []int{5, 1}}, {"3", []int{5, 1, 3}}, {"4", []int{5, 1, 3}}, {"8", []int{5, 1, 3}}, {"4294967295", []int{5, 1, 3}}} {
		texts := make([]string, 8)
		texts[0] = "set r1 " + c.n + "; wake r1 [1]; wake r1 [0]"
		for _, s := range order {
			texts[s.Who] = fmt.Sprintf("wait r1 [%d]; out r1", s.Addr)
		}
		r := rigOf(t, make([]uint32, 3), texts...)
		for n, s := range order {
			r.tells(fmt.Sprintf("s%d", s.Who), api.Event{Kind: api.EvWait, Who: s.Who, Addr: s.Addr, Ok: true})
			r.sleepers(order[:n+1]...)
		}
		n := uint32(len(c.woken))
		r.tells("s0 s0", api.Event{Kind: api.EvWake, Pc: 1, Addr: 1, Value: n})
		r.thread(0, 2, api.Running, 0, n)
		var left []kern.Sleeper
		for _, s := range order {
			if slices.Contains(c.woken, s.Who) {
				r.thread(s.Who, 1, api.Running)
				continue
			}
			r.thread(s.Who, 1, api.Blocked)
			left = append(left, s)
		}
		r.sleepers(left...)
		r.tells("s0", api.Event{Kind: api.EvWake, Pc: 2})
		r.thread(0, 3, api.Running)
		r.sleepers(left...)
		for _, who := range c.woken {
			r.tells(fmt.Sprintf("s%d s%d", who, who), api.Event{Kind: api.EvOut, Who: who, Pc: 1}, api.Event{Kind: api.EvHalt, Who: who, Pc: 2})
		}
	}
}

// Who was woken may fall asleep again, behind all others.
func TestSleepAgain(t *testing.T) { // 10.1
	r := rigOf(t, []uint32{0}, "wait r1 [0]; jump @0", "wait r1 [0]", "set r1 1; wake r1 [0]; jump @0")
	r.m.Run(picks(t, "s0 s1"))
	r.sleepers(kern.Sleeper{Who: 0}, kern.Sleeper{Who: 1})
	r.m.Run(picks(t, "s2 s2 s0 s0"))
	r.sleepers(kern.Sleeper{Who: 1}, kern.Sleeper{Who: 0})
	r.m.Run(picks(t, "r1 s2 s2 s2"))
	r.sleepers()
	r.thread(0, 1, api.Running)
	r.thread(1, 1, api.Running)
	r.thread(2, 2, api.Running, 0, 1)
}

func TestThreadOfEachAndOfNone(t *testing.T) { // 10.1
	for threads := 1; threads <= 8; threads++ {
		var texts []string
		for who := range threads {
			texts = append(texts, fmt.Sprintf("set r1 %d; wait r2 [0]", who+1))
		}
		r := rigOf(t, make([]uint32, 1), texts...)
		for who := range threads {
			r.m.Run(slices.Repeat([]api.Pick{{Who: who}}, 2))
			r.thread(who, 2, api.Blocked, 0, uint32(who+1))
		}
		for _, who := range append([]int{threads, threads + 1}, strangers...) {
			if x := r.m.Thread(who); x != (api.Thread{}) {
				t.Errorf("%d threads: Thread(%d) = %v", threads, who, x)
			}
		}
		for who, x := range r.m.Threads() {
			if x != r.m.Thread(who) {
				t.Errorf("Thread(%d) = %v; of all it is %v", who, r.m.Thread(who), x)
			}
		}
	}
}

func TestCountAndEvent(t *testing.T) { // 10.1
	r := rigOf(t, make([]uint32, 1), "set r1 6; out r1; out r1; store r1 [0]; mark r1 3", "load r1 [0]")
	none := func() {
		t.Helper()
		n := r.m.Count()
		for _, i := range []int{-1, -2, n, n + 1, n + 7, 1 << 32, 1<<32 + 1, -1 << 32, -1<<32 + 1, math.MinInt32, math.MaxInt32, math.MinInt, math.MaxInt} {
			if x := r.m.Event(i); x != (api.Event{}) {
				t.Errorf("of %d: Event(%d) = %+v", n, i, x)
			}
		}
	}
	want := []api.Event{
		{Kind: api.EvOut, Pc: 1, Value: 6},
		{Kind: api.EvOut, Pc: 2, Value: 6},
		{Kind: api.EvStore, Pc: 3, Value: 6},
		{Kind: api.EvLoad, Who: 1, Value: 6},
		{Kind: api.EvMark, Pc: 4, Value: 6, K: 3},
		{Kind: api.EvHalt, Who: 1, Pc: 1},
		{Kind: api.EvHalt, Pc: 5},
	}
	none()
	n := 0
	for _, c := range []struct {
		pick  string
		count int
	}{{"s0", 0}, {"s0", 1}, {"f0", 1}, {"s0", 2}, {"s0", 3}, {"r1", 3}, {"s1", 4}, {"s0", 5}, {"s1", 6}, {"s0", 7}, {"s0", 7}} {
		r.m.Run(picks(t, c.pick))
		if n = r.m.Count(); n != c.count || n != len(r.m.Events()) {
			t.Errorf("Count = %d; want %d, of %v", n, c.count, r.m.Events())
		}
		for i := range n {
			if x := r.m.Event(i); x != want[i] {
				t.Errorf("Event(%d) = %+v; want %+v", i, x, want[i])
			}
		}
		none()
	}
}

func TestDone(t *testing.T) { // 10.1
	r := rigOf(t, []uint32{0}, "store r1 [0]", "wait r1 [0]", "load r1 [1]", "halt")
	r.done(false)
	for _, c := range []struct {
		picks string
		want  bool
	}{{"s3 s2", false}, {"s0 s0", false}, {"s1", false}, {"f0", false}, {"r1", false}, {"s1", true}, {"s0 s1 f0 r1", true}} {
		r.m.Run(picks(t, c.picks))
		r.done(c.want)
	}
	for who := range 8 { // whoever is last
		r := rigOf(t, []uint32{0}, slices.Repeat([]string{"store r1 [0]"}, 8)...)
		for other := range 8 {
			if other != who {
				r.m.Run(slices.Repeat([]api.Pick{{Who: other}}, 2))
			}
		}
		r.done(false)
		r.m.Pick(api.Pick{Who: who})
		r.done(false)
		r.m.Pick(api.Pick{Who: who})
		r.done(true)
	}
	r = rigOf(t, []uint32{0}, "load r1 [1]", "wait r1 [0]") // all others have ended, and one sleeps
	r.m.Run(picks(t, "s0 s1"))
	r.done(false)
}

func TestRun(t *testing.T) { // 10.1
	p := program(t, 2, make([]uint32, 2), "set r1 1; store r1 [0]; fence; load r2 [1]; wake r1 [0]", "wait r2 [0]; set r1 1; store r1 [1]; remote; load r2 [0]")
	l := picks(t, "s1 s0 s0 s0 f1 s0 r1 s1 s0 s0 s1 s1 s1 f0 s1 s0 s1 s1")
	one, all := made(t, p), made(t, p)
	for _, x := range l {
		one.Pick(x)
	}
	kept := slices.Clone(l)
	all.Run(l)
	is(t, all, stateOf(one))
	if !all.Done() || !slices.Equal(l, kept) {
		t.Errorf("it is %v by %v", stateOf(all), l)
	}
	all.Run(nil)
	all.Run([]api.Pick{})
	is(t, all, stateOf(one))
}

// Two machines of one program have nothing to do with each other.
func TestTwoMachines(t *testing.T) { // 10.1, and rule 6
	p := program(t, 2, make([]uint32, 2), "set r1 1; store r1 [0]; fence; wait r2 [1]")
	l := picks(t, "s0 s0 s0 s0 s0")
	one, other := made(t, p), made(t, p)
	fresh := stateOf(other)
	one.Run(l)
	is(t, other, fresh)
	other.Run(l)
	is(t, other, stateOf(one))
}

// A program that is handed in isn't changed, and isn't kept; nor is what stands in the room behind it.
func TestHandedIn(t *testing.T) { // 10.1, and rule 4
	text := "set r1 7; store r1 [0]; fence; wait r2 [1]; swap r1 [1]; out r1"
	p := program(t, 2, []uint32{0, 0}, text, text)
	p.Mem = append(make([]uint32, 0, 8), p.Mem...)
	for at, l := range p.Codes {
		p.Codes[at] = append(make([]api.Instr, 0, 16), l...)
	}
	m := made(t, p)
	w := newTold(program(t, 2, []uint32{0, 0}, text, text))
	n := anyNumber(1)
	for range 40 {
		x := n.anyPick(2)
		m.Pick(x)
		w.pick(x)
		is(t, m, w.now())
		fill(p.Mem, 99)
		fill(p.Codes[0], api.Instr{Op: api.Out, A: 3})
		fill(p.Codes[1], api.Instr{Op: -1})
	}
	p = program(t, 2, []uint32{1, 2}, text)
	p.Codes = append(make([][]api.Instr, 0, 4), p.Codes...)
	kept := slices.Clone(p.Codes[0])
	m = made(t, p)
	m.Run(slices.Repeat(picks(t, "s0 f0 r0"), 20))
	if !slices.Equal(p.Mem, []uint32{1, 2}) || len(p.Codes) != 1 || p.Codes[:2][1] != nil || !slices.Equal(p.Codes[0], kept) || p.Room != 2 {
		t.Errorf("the program is %v now", p)
	}
}

// fill puts one thing everywhere into a list, spare room included.
func fill[T any](l []T, x T) {
	l = l[:cap(l)]
	for at := range l {
		l[at] = x
	}
}

// What is handed out is new memory: whatever is done with it changes nothing, and it stays as it is.
func TestHandedOut(t *testing.T) { // 10.1, and rule 4
	r := rigOf(t, make([]uint32, 3), "set r1 1; store r1 [0]; store r1 [1]; store r1 [2]; out r1", "wait r1 [2]; out r1", "wait r1 [1]")
	for _, x := range picks(t, "s1 s0 s2 s0 s0 s0 s0 r1 f0 s1") {
		r.m.Pick(x)
		was := stateOf(r.m).copied()
		threads, mem, sleepers, events := r.m.Threads(), r.m.Mem(), r.m.Sleepers(), r.m.Events()
		fill(threads, api.Thread{Pc: 99, Status: 3})
		fill(mem, 99)
		fill(sleepers, kern.Sleeper{Who: 7, Addr: 99})
		fill(events, api.Event{Kind: 99})
		is(t, r.m, was)
	}
	early := stateOf(r.m)
	kept := early.copied()
	r.m.Run(picks(t, "s0 f0 s1 s2 r2 s2 s2 s1"))
	if !early.same(kept) {
		t.Errorf("what was handed out changed: %v; was %v", early, kept)
	}
}
