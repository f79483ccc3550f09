package sc

import (
	"fmt"
	"maps"
	"slices"
	"strings"
	"testing"

	"deadlatch/api"
	"deadlatch/isa"
	"deadlatch/tso"
)

// retold goes through events, and holds of each what has to be so by those ahead of it: what is loaded was stored last, and nothing is ever flushed.
type retold struct {
	*testing.T
	last  []uint32
	known int // how many events it has gone through
}

func retoldOf(t *testing.T, p api.Program) *retold {
	return &retold{T: t, last: slices.Clone(p.Mem)}
}

func (w *retold) hears(m *Machine) {
	w.Helper()
	for _, x := range m.Events()[w.known:] {
		if !w.may(x) {
			w.Errorf("%+v, where %v was stored last", x, w.last)
		}
	}
	w.known = m.Count()
	if l := m.Mem(); !slices.Equal(l, w.last) {
		w.Errorf("Mem = %v; want %v", l, w.last)
	}
}

// may tells whether an event may come now, and does what it tells.
func (w *retold) may(x api.Event) bool {
	switch x.Kind {
	case api.EvStore:
		w.last[x.Addr] = x.Value
	case api.EvFlush:
		return false
	case api.EvLoad, api.EvWait:
		return x.Value == w.last[x.Addr]
	case api.EvSwap:
		old := w.last[x.Addr]
		if x.Ok {
			w.last[x.Addr] = x.Value
		}
		return x.Old == old && (x.Ok || x.Value == old)
	}
	return true
}

// Whatever is run, by whatever picks, each load tells what was stored last.
func TestLoadsTellWhatWasStoredLast(t *testing.T) { // 10.2
	kinds := map[int]int{}
	for seed := range 1500 {
		n := anyNumber(seed)
		p := n.anyProgram()
		m, w := made(t, p), retoldOf(t, p)
		for range 120 {
			m.Pick(n.anyPick(len(p.Codes)))
			w.hears(m)
		}
		if t.Failed() {
			t.Fatalf("of the program %d: %+v", seed, p)
		}
		for _, x := range m.Events() {
			kinds[x.Kind]++
		}
	}
	for kind := api.EvLoad; kind <= api.EvFault; kind++ {
		if kind != api.EvFlush && kinds[kind] < 100 {
			t.Errorf("only %d events of the kind %d came", kinds[kind], kind)
		}
	}
}

// Behind each pick the machine is as the document tells it.
func TestAsTold(t *testing.T) { // 10.1, 10.2
	done := map[int]int{}
	for seed := range 3000 {
		n := anyNumber(seed + 1<<20)
		p := n.anyProgram()
		m, w := made(t, p), newTold(p)
		is(t, m, w.now())
		for range 80 {
			x := n.anyPick(len(p.Codes))
			count(done, w, x)
			m.Pick(x)
			w.pick(x)
			is(t, m, w.now())
		}
	}
	for op := range 28 {
		if done[op] < 100 {
			t.Errorf("%s was picked only %d times", isa.Name(op), done[op])
		}
	}
}

// count notes which instruction a pick is a step of.
func count(done map[int]int, w *told, x api.Pick) {
	if x.Kind != api.Step || x.Who < 0 || x.Who >= len(w.threads) {
		return
	}
	s, l := w.threads[x.Who], w.p.Codes[x.Who]
	if s.Status == api.Running && s.Pc < len(l) {
		done[l[s.Pc].Op]++
	}
}

// flushed is a machine with buffers, each of whose steps is followed by flushes of that thread till its buffer is empty.
type flushed struct {
	m *tso.Machine
	t *testing.T
}

func flushedOf(t *testing.T, p api.Program) flushed {
	t.Helper()
	m, e := tso.New(p)
	if e != api.OK {
		t.Fatalf("tso.New = %d", e)
	}
	return flushed{m, t}
}

func (f flushed) pick(x api.Pick) {
	f.m.Pick(x)
	for len(f.m.Buffer(x.Who)) > 0 {
		f.m.Pick(api.Pick{Kind: api.Flush, Who: x.Who})
	}
}

// comesTo answers all that it tells of itself, but for its flushes: there are none without buffers.
func (f flushed) comesTo() state {
	events := slices.DeleteFunc(f.m.Events(), func(x api.Event) bool { return x.Kind == api.EvFlush })
	return state{threads: f.m.Threads(), mem: f.m.Mem(), sleepers: f.m.Sleepers(), events: events, done: f.m.Done()}
}

// What a machine comes to whose buffers are emptied behind each step, one without comes to by the same picks, behind each of them.
func TestAsWithBuffersThatAreFlushed(t *testing.T) { // 10.3
	stores := 0
	for seed := range 2000 {
		n := anyNumber(seed + 1<<30)
		p := n.anyProgram()
		m, f := made(t, p), flushedOf(t, p)
		is(t, m, f.comesTo())
		for range 80 {
			x := n.anyPick(len(p.Codes))
			m.Pick(x)
			f.pick(x)
			is(t, m, f.comesTo())
		}
		for _, x := range m.Events() {
			if x.Kind == api.EvStore {
				stores++
			}
		}
	}
	if stores < 1000 {
		t.Errorf("only %d stores came", stores)
	}
}

// The same by hand: of programs in which each instruction that has to do with buffers stands behind a store.
func TestAsWithBuffersByHand(t *testing.T) { // 10.3
	for _, texts := range [][]string{
		{"set r1 1; store r1 [0]; load r2 [1]", "set r1 1; store r1 [1]; load r2 [0]"},
		{"set r1 1; store r1 [0]; store r1 [1]; load r2 [0]; fence", "load r1 [1]; load r2 [0]; set r1 2; store r1 [0]; swap r1 [0]"},
		{"set r1 1; store r1 [0]; wait r2 [1]; out r2", "set r1 1; store r1 [1]; wake r1 [1]; cas r1 r2 [0]; fetch r1 [0]"},
		{"store r1 [0]; remote; store r1 [9]; halt", "set r1 3; store r1 [1]; remote; load r2 [1]"},
	} {
		for _, room := range []int{1, 2, 16} {
			for _, script := range []string{
				"s0 s1 s0 s1 s0 s1 s0 s1 s0 s1 s0 s1 s0 s1",
				"s0 s0 s0 f0 s1 r0 s1 f1 s1 s1 s0 s0 s1 r1 s1 s0 s0 s0",
				"s1 s1 s1 s1 s1 s1 s1 s0 s0 s0 s0 s0 s0 s0 s0",
			} {
				p := program(t, room, make([]uint32, 2), texts...)
				m, f := made(t, p), flushedOf(t, p)
				for _, x := range picks(t, script) {
					m.Pick(x)
					f.pick(x)
					is(t, m, f.comesTo())
				}
			}
		}
	}
}

// A step of one who isn't Running, any flush, and a rousing of one who doesn't sleep, change nothing; a thread sleeps just as long as it is Blocked.
func TestWhatChangesNothing(t *testing.T) { // 10.1
	idle := 0
	for seed := range 1000 {
		n := anyNumber(seed + 1<<40)
		p := n.anyProgram()
		r := &rig{T: t, m: made(t, p)}
		for range 60 {
			x := n.anyPick(len(p.Codes))
			if !hasEffect(r.m, x) {
				idle++
				r.stays(x)
			} else {
				r.m.Pick(x)
			}
			for who, s := range r.m.Threads() {
				if asleep(r.m, who) != (s.Status == api.Blocked) {
					t.Errorf("the thread %d is %v, asleep are %v", who, s, r.m.Sleepers())
				}
			}
		}
		if t.Failed() {
			t.Fatalf("of the program %d: %+v", seed, p)
		}
	}
	if idle < 1000 {
		t.Errorf("only %d picks had no effect", idle)
	}
}

func asleep(m *Machine, who int) bool {
	for _, s := range m.Sleepers() {
		if s.Who == who {
			return true
		}
	}
	return false
}

// hasEffect tells whether a pick may change something.
func hasEffect(m *Machine, x api.Pick) bool {
	if x.Who < 0 || x.Who >= len(m.Threads()) {
		return false
	}
	return x.Kind == api.Step && m.Thread(x.Who).Status == api.Running || x.Kind == api.Rouse && asleep(m, x.Who)
}

// outcomes answers what may come of a program when all is done, by all turns that there are, flushes and rousings among them: a line each, of what is asked for.
func outcomes(t *testing.T, p api.Program, what ...int) []string {
	t.Helper()
	seen, ends := map[string]bool{}, map[string]bool{}
	var try func(script []api.Pick)
	try = func(script []api.Pick) {
		m := made(t, p)
		m.Run(script)
		s := stateOf(m)
		s.events = nil
		key := s.String()
		if seen[key] {
			return
		}
		seen[key] = true
		if s.done {
			ends[endOf(s, what)] = true
			return
		}
		for who := range s.threads {
			for kind := range 3 {
				try(append(slices.Clone(script), api.Pick{Kind: kind, Who: who}))
			}
		}
	}
	try(nil)
	return slices.Sorted(maps.Keys(ends))
}

// endOf tells what is asked for of a state: 10 t and r is the register r of the thread t, -1 less an address is its word of memory.
func endOf(s state, what []int) string {
	var l []string
	for _, n := range what {
		if n < 0 {
			l = append(l, fmt.Sprint(s.mem[-1-n]))
		} else {
			l = append(l, fmt.Sprint(s.threads[n/10].Regs[n%10]))
		}
	}
	return strings.Join(l, " ")
}

// What may come of small programs, by all turns that there are, is what may come where stores are in memory at once, all of it, and nothing else. The first one is the chapter's example.
func TestAllTurns(t *testing.T) { // 10.2
	const one = "set r1 1; "
	for _, c := range []struct {
		name  string
		texts []string
		what  []int
		want  []string
	}{
		{"each stores, then loads", []string{one + "store r1 [0]; load r2 [1]", one + "store r1 [1]; load r2 [0]"}, []int{2, 12},
			[]string{"0 1", "1 0", "1 1"}},
		{"each loads its own ahead of the other one's", []string{one + "store r1 [0]; load r3 [0]; load r2 [1]", one + "store r1 [1]; load r3 [1]; load r2 [0]"}, []int{3, 2, 13, 12},
			[]string{"1 0 1 1", "1 1 1 0", "1 1 1 1"}},
		{"a message", []string{one + "store r1 [0]; store r1 [1]", "load r2 [1]; load r3 [0]"}, []int{12, 13},
			[]string{"0 0", "0 1", "1 1"}},
		{"each loads, then stores", []string{one + "load r2 [1]; store r1 [0]", one + "load r2 [0]; store r1 [1]"}, []int{2, 12},
			[]string{"0 0", "0 1", "1 0"}},
		{"two who store at one word", []string{one + "store r1 [0]; load r2 [0]", "set r1 2; store r1 [0]; load r2 [0]"}, []int{2, 12, -1},
			[]string{"1 1 1", "1 2 1", "1 2 2", "2 2 2"}},
		{"the own one, then one that isn't there yet", []string{one + "store r1 [0]; load r2 [0]; load r3 [1]", "set r1 2; store r1 [1]; store r1 [0]"}, []int{2, 3, -1},
			[]string{"1 0 2", "1 2 1", "1 2 2", "2 2 2"}},
		{"fetches", []string{one + "fetch r1 [0]", one + "fetch r1 [0]"}, []int{1, 11, -1},
			[]string{"0 1 2", "1 0 2"}},
		{"one added by loads and stores", []string{one + "load r2 [0]; add r2 r2 r1; store r2 [0]", one + "load r2 [0]; add r2 r2 r1; store r2 [0]"}, []int{-1},
			[]string{"1", "2"}},
		{"one who waits, and one who wakes, or not in time", []string{"wait r2 [0]; load r3 [0]", one + "store r1 [0]; wake r1 [0]"}, []int{2, 3, 11},
			[]string{"0 0 0", "0 1 0", "0 1 1", "1 1 0"}},
	} {
		for _, room := range []int{1, 16} {
			if got := outcomes(t, program(t, room, make([]uint32, 3), c.texts...), c.what...); !slices.Equal(got, c.want) {
				t.Errorf("%s, room %d: %q; want %q", c.name, room, got, c.want)
			}
		}
	}
}

// FuzzMachine runs any program by any script, and holds the machine behind each pick against the document's, and against one whose buffers are flushed.
func FuzzMachine(f *testing.F) { // 10.1, 10.2, 10.3
	f.Add(uint64(0), []byte{0, 0, 0, 1, 1, 1, 8, 9, 16, 17})
	f.Add(uint64(77), []byte{0, 1, 2, 3, 0, 1, 2, 3, 8, 9, 10, 11, 16, 17, 18, 19, 255, 24, 25})
	f.Fuzz(func(t *testing.T, seed uint64, script []byte) {
		n := anyNumber(seed)
		p := n.anyProgram()
		m, w, h, b := made(t, p), newTold(p), retoldOf(t, p), flushedOf(t, p)
		for _, c := range script[:min(len(script), 300)] {
			x := api.Pick{Kind: int(c)/8%5 - 1, Who: int(c)%8 - 1}
			m.Pick(x)
			w.pick(x)
			b.pick(x)
			is(t, m, w.now())
			is(t, m, b.comesTo())
			h.hears(m)
		}
	})
}
