package tso

import (
	"fmt"
	"maps"
	"slices"
	"strings"
	"testing"

	"deadlatch/api"
	"deadlatch/isa"
)

// retold goes through events, and holds of each what has to be so by those ahead of it: stores come into memory in the order in which each thread did them, loads tell what they have to, and what is locked finds the buffer empty.
type retold struct {
	*testing.T
	mem   []uint32
	room  int
	bufs  [][]api.Entry
	known int // how many events it has gone through
}

func retoldOf(t *testing.T, p api.Program) *retold {
	return &retold{T: t, mem: slices.Clone(p.Mem), room: p.Room, bufs: make([][]api.Entry, len(p.Codes))}
}

// seen answers what a thread has to find at an address.
func (w *retold) seen(who, addr int) uint32 {
	for _, x := range slices.Backward(w.bufs[who]) {
		if x.Addr == addr {
			return x.Value
		}
	}
	return w.mem[addr]
}

func (w *retold) hears(l []api.Event) {
	w.Helper()
	for _, x := range l[w.known:] {
		if !w.may(x) {
			w.Errorf("%+v, with memory %v and the buffers %v", x, w.mem, w.bufs)
		}
	}
	w.known = len(l)
}

// may tells whether an event may come now, and does what it tells.
func (w *retold) may(x api.Event) bool {
	own := w.bufs[x.Who]
	switch x.Kind {
	case api.EvStore:
		w.bufs[x.Who] = append(own, api.Entry{Addr: x.Addr, Value: x.Value})
		return len(own) < w.room
	case api.EvFlush:
		if len(own) == 0 || own[0] != (api.Entry{Addr: x.Addr, Value: x.Value}) || x.Pc != 0 {
			return false
		}
		w.bufs[x.Who] = own[1:]
		w.mem[x.Addr] = x.Value
	case api.EvLoad:
		return x.Value == w.seen(x.Who, x.Addr)
	case api.EvSwap:
		old := w.mem[x.Addr]
		if x.Ok {
			w.mem[x.Addr] = x.Value
		}
		return len(own) == 0 && x.Old == old && (x.Ok || x.Value == old)
	case api.EvWait:
		return len(own) == 0 && x.Value == w.mem[x.Addr]
	case api.EvFence, api.EvWake:
		return len(own) == 0
	case api.EvRemote:
		return !slices.ContainsFunc(w.bufs, func(l []api.Entry) bool { return len(l) > 0 })
	}
	return true
}

// agrees holds memory and buffers against what the events made of them.
func (w *retold) agrees(m *Machine) {
	w.Helper()
	if l := m.Mem(); !slices.Equal(l, w.mem) {
		w.Errorf("Mem = %v; want %v", l, w.mem)
	}
	for who, want := range w.bufs {
		if l := m.Buffer(who); !slices.Equal(l, want) {
			w.Errorf("Buffer(%d) = %v; want %v", who, l, want)
		}
	}
}

// Whatever is run, by whatever picks, what the events tell holds, and memory and buffers are what they make of them.
func TestWhatHolds(t *testing.T) { // 9.3
	kinds := map[int]int{}
	for seed := range 1500 {
		n := anyNumber(seed)
		p := n.anyProgram()
		m, w := made(t, p), retoldOf(t, p)
		for range 120 {
			m.Pick(n.anyPick(len(p.Codes)))
			w.hears(m.Events())
			w.agrees(m)
		}
		if t.Failed() {
			t.Fatalf("of the program %d: %+v", seed, p)
		}
		for _, x := range m.Events() {
			kinds[x.Kind]++
		}
	}
	for kind := api.EvLoad; kind <= api.EvFault; kind++ {
		if kinds[kind] < 100 {
			t.Errorf("only %d events of the kind %d came", kinds[kind], kind)
		}
	}
}

// Behind each pick the machine is as the document tells it.
func TestAsTold(t *testing.T) { // 9.1, 9.2, 9.3
	done := map[int]int{}
	for seed := range 3000 {
		n := anyNumber(seed + 1<<20)
		p := n.anyProgram()
		m, w := made(t, p), newTold(p)
		is(t, m, w.now())
		for range 80 {
			x := n.anyPick(len(p.Codes))
			count(done, w, x)
			m.Pick(x)
			w.pick(x)
			is(t, m, w.now())
		}
	}
	for op := range 28 {
		if done[op] < 100 {
			t.Errorf("%s was picked only %d times", isa.Name(op), done[op])
		}
	}
}

// count notes which instruction a pick is a step of.
func count(done map[int]int, w *told, x api.Pick) {
	if x.Kind != api.Step || x.Who < 0 || x.Who >= len(w.threads) {
		return
	}
	s, l := w.threads[x.Who], w.p.Codes[x.Who]
	if s.Status == api.Running && s.Pc < len(l) {
		done[l[s.Pc].Op]++
	}
}

// A step of one who isn't Running, a flush of an empty buffer, and a rousing of one who doesn't sleep, change nothing; a thread sleeps just as long as it is Blocked.
func TestWhatChangesNothing(t *testing.T) { // 9.3
	idle := 0
	for seed := range 1000 {
		n := anyNumber(seed + 1<<40)
		p := n.anyProgram()
		r := &rig{T: t, m: made(t, p)}
		for range 60 {
			x := n.anyPick(len(p.Codes))
			if !hasEffect(r.m, x) {
				idle++
				r.stays(x)
			} else {
				r.m.Pick(x)
			}
			for who, s := range r.m.Threads() {
				if asleep(r.m, who) != (s.Status == api.Blocked) {
					t.Errorf("the thread %d is %v, asleep are %v", who, s, r.m.Sleepers())
				}
			}
		}
		if t.Failed() {
			t.Fatalf("of the program %d: %+v", seed, p)
		}
	}
	if idle < 1000 {
		t.Errorf("only %d picks had no effect", idle)
	}
}

func asleep(m *Machine, who int) bool {
	for _, s := range m.Sleepers() {
		if s.Who == who {
			return true
		}
	}
	return false
}

// hasEffect tells whether a pick may change something.
func hasEffect(m *Machine, x api.Pick) bool {
	l := m.Threads()
	if x.Who < 0 || x.Who >= len(l) {
		return false
	}
	switch x.Kind {
	case api.Step:
		return l[x.Who].Status == api.Running
	case api.Flush:
		return len(m.Buffer(x.Who)) > 0
	case api.Rouse:
		return asleep(m, x.Who)
	}
	return false
}

// outcomes answers what may come of a program when all is done, by all turns that there are: a line each, of what is asked for.
func outcomes(t *testing.T, p api.Program, what ...int) []string {
	t.Helper()
	seen, ends := map[string]bool{}, map[string]bool{}
	var try func(script []api.Pick)
	try = func(script []api.Pick) {
		m := made(t, p)
		m.Run(script)
		s := stateOf(m)
		s.events = nil
		key := s.String()
		if seen[key] {
			return
		}
		seen[key] = true
		if s.done {
			ends[endOf(s, what)] = true
			return
		}
		for who := range s.threads {
			for _, x := range []api.Pick{{Kind: api.Step, Who: who}, {Kind: api.Flush, Who: who}} {
				if hasEffect(m, x) {
					try(append(slices.Clone(script), x))
				}
			}
		}
	}
	try(nil)
	return slices.Sorted(maps.Keys(ends))
}

// endOf tells what is asked for of a state: 10 t and r is the register r of the thread t, -1 less an address is its word of memory.
func endOf(s state, what []int) string {
	var l []string
	for _, n := range what {
		if n < 0 {
			l = append(l, fmt.Sprint(s.mem[-1-n]))
		} else {
			l = append(l, fmt.Sprint(s.threads[n/10].Regs[n%10]))
		}
	}
	return strings.Join(l, " ")
}

// What may come of small programs, by all turns that there are, is what total store order lets come, all of it, and nothing else.
func TestAllTurns(t *testing.T) { // 9.3
	const one = "set r1 1; "
	for _, c := range []struct {
		name  string
		texts []string
		what  []int
		want  []string
	}{
		{"each stores, then loads", []string{one + "store r1 [0]; load r2 [1]", one + "store r1 [1]; load r2 [0]"}, []int{2, 12},
			[]string{"0 0", "0 1", "1 0", "1 1"}},
		{"with fences", []string{one + "store r1 [0]; fence; load r2 [1]", one + "store r1 [1]; fence; load r2 [0]"}, []int{2, 12},
			[]string{"0 1", "1 0", "1 1"}},
		{"with one fence alone", []string{one + "store r1 [0]; fence; load r2 [1]", one + "store r1 [1]; load r2 [0]"}, []int{2, 12},
			[]string{"0 0", "0 1", "1 0", "1 1"}},
		{"with swaps", []string{one + "swap r1 [0]; load r2 [1]", one + "swap r1 [1]; load r2 [0]"}, []int{2, 12},
			[]string{"0 1", "1 0", "1 1"}},
		{"one of them with a remote", []string{one + "store r1 [0]; load r2 [1]", one + "store r1 [1]; remote; load r2 [0]"}, []int{2, 12},
			[]string{"0 1", "1 0", "1 1"}},
		{"with a swap elsewhere", []string{one + "store r1 [0]; swap r3 [2]; load r2 [1]", one + "store r1 [1]; swap r3 [2]; load r2 [0]"}, []int{2, 12},
			[]string{"0 1", "1 0", "1 1"}},
		{"with a cas that fails", []string{one + "store r1 [0]; cas r1 r3 [2]; load r2 [1]", one + "store r1 [1]; cas r1 r3 [2]; load r2 [0]"}, []int{2, 12},
			[]string{"0 1", "1 0", "1 1"}},
		{"each loads its own ahead of the other one's", []string{one + "store r1 [0]; load r3 [0]; load r2 [1]", one + "store r1 [1]; load r3 [1]; load r2 [0]"}, []int{3, 2, 13, 12},
			[]string{"1 0 1 0", "1 0 1 1", "1 1 1 0", "1 1 1 1"}},
		{"a message", []string{one + "store r1 [0]; store r1 [1]", "load r2 [1]; load r3 [0]"}, []int{12, 13},
			[]string{"0 0", "0 1", "1 1"}},
		{"each loads, then stores", []string{one + "load r2 [1]; store r1 [0]", one + "load r2 [0]; store r1 [1]"}, []int{2, 12},
			[]string{"0 0", "0 1", "1 0"}},
		{"two who store at one word", []string{one + "store r1 [0]; load r2 [0]", "set r1 2; store r1 [0]; load r2 [0]"}, []int{2, 12, -1},
			[]string{"1 1 1", "1 2 1", "1 2 2", "2 2 2"}},
		{"the own one, then one that isn't there yet", []string{one + "store r1 [0]; load r2 [0]; load r3 [1]", "set r1 2; store r1 [1]; store r1 [0]"}, []int{2, 3, -1},
			[]string{"1 0 1", "1 0 2", "1 2 1", "1 2 2", "2 2 2"}},
		{"fetches", []string{one + "fetch r1 [0]", one + "fetch r1 [0]"}, []int{1, 11, -1},
			[]string{"0 1 2", "1 0 2"}},
		{"who looks at two who store, and another one who does", []string{one + "store r1 [0]", one + "store r1 [1]", "load r1 [0]; load r2 [1]", "load r1 [1]; load r2 [0]"}, []int{21, 22, 31, 32},
			[]string{"0 0 0 0", "0 0 0 1", "0 0 1 0", "0 0 1 1", "0 1 0 0", "0 1 0 1", "0 1 1 0", "0 1 1 1", "1 0 0 0", "1 0 0 1", "1 0 1 1", "1 1 0 0", "1 1 0 1", "1 1 1 0", "1 1 1 1"}},
	} {
		for _, room := range []int{1, 2, 16} {
			if got := outcomes(t, program(t, room, make([]uint32, 3), c.texts...), c.what...); !slices.Equal(got, c.want) {
				t.Errorf("%s, room %d: %q; want %q", c.name, room, got, c.want)
			}
		}
	}
}

// FuzzMachine runs any program by any script, and holds the machine against the document's behind each pick.
func FuzzMachine(f *testing.F) { // 9.1, 9.2, 9.3
	f.Add(uint64(0), []byte{0, 0, 0, 1, 1, 1, 8, 9, 16, 17})
	f.Add(uint64(77), []byte{0, 1, 2, 3, 0, 1, 2, 3, 8, 9, 10, 11, 16, 17, 18, 19, 255, 24, 25})
	f.Fuzz(func(t *testing.T, seed uint64, script []byte) {
		n := anyNumber(seed)
		p := n.anyProgram()
		m, w, h := made(t, p), newTold(p), retoldOf(t, p)
		for _, b := range script[:min(len(script), 300)] {
			x := api.Pick{Kind: int(b)/8%5 - 1, Who: int(b)%8 - 1}
			m.Pick(x)
			w.pick(x)
			is(t, m, w.now())
			h.hears(m.Events())
			h.agrees(m)
		}
	})
}
