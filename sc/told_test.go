package sc

import (
	"fmt"
	"math"
	"slices"
	"strings"
	"testing"

	"deadlatch/alu"
	"deadlatch/api"
	"deadlatch/asm"
	"deadlatch/isa"
	"deadlatch/kern"
)

// state is all that a machine tells of itself.
type state struct {
	threads  []api.Thread
	mem      []uint32
	sleepers []kern.Sleeper
	events   []api.Event
	done     bool
}

func (s state) same(o state) bool {
	return slices.Equal(s.threads, o.threads) && slices.Equal(s.mem, o.mem) && slices.Equal(s.sleepers, o.sleepers) &&
		slices.Equal(s.events, o.events) && s.done == o.done
}

// copied answers a state that shares no memory with this one.
func (s state) copied() state {
	s.threads, s.mem, s.sleepers, s.events = slices.Clone(s.threads), slices.Clone(s.mem), slices.Clone(s.sleepers), slices.Clone(s.events)
	return s
}

func (s state) String() string {
	last := s.events[max(0, len(s.events)-5):]
	return fmt.Sprintf("threads %v, mem %v, asleep %v, %d events that end with %+v, done %v", s.threads, s.mem, s.sleepers, len(s.events), last, s.done)
}

// stateOf answers what a machine tells of itself.
func stateOf(m *Machine) state {
	return state{threads: m.Threads(), mem: m.Mem(), sleepers: m.Sleepers(), events: m.Events(), done: m.Done()}
}

// told is a machine as the document tells of it, in plain lists, with steps of its own.
type told struct {
	p api.Program
	state
}

func newTold(p api.Program) *told {
	w := &told{p: p}
	w.mem = slices.Clone(p.Mem)
	w.threads = make([]api.Thread, len(p.Codes))
	return w
}

// now answers what the machine has to tell of itself.
func (w *told) now() state {
	w.done = !slices.ContainsFunc(w.threads, func(x api.Thread) bool { return x.Status < 2 })
	return w.state
}

func (w *told) pick(x api.Pick) {
	if x.Who < 0 || x.Who > len(w.threads)-1 {
		return
	}
	if x.Kind == 0 {
		w.step(x.Who)
	}
	if x.Kind == 2 && w.rise(func(s kern.Sleeper) bool { return s.Who == x.Who }) > 0 {
		w.tell(api.Event{Kind: 11, Who: x.Who})
	}
}

func (w *told) tell(x api.Event) { w.events = append(w.events, x) }

// rise lets those go on of whom it holds, and answers how many there were.
func (w *told) rise(who func(kern.Sleeper) bool) uint32 {
	var left []kern.Sleeper
	n := uint32(0)
	for _, s := range w.sleepers {
		if who(s) {
			w.threads[s.Who].Status = 0
			n++
		} else {
			left = append(left, s)
		}
	}
	w.sleepers = left
	return n
}

func (w *told) step(who int) {
	x := &w.threads[who]
	pc, code := x.Pc, w.p.Codes[who]
	if x.Status != 0 {
		return
	}
	if pc >= len(code) {
		x.Status = 2
		w.tell(api.Event{Kind: 12, Who: who, Pc: pc})
		return
	}
	i := code[pc]
	var base uint32
	if i.B < 8 {
		base = x.Regs[i.B]
	}
	asks := slices.Contains([]int{16, 17, 19, 20, 21, 23, 24}, i.Op)
	if asks && i.K+base >= uint32(len(w.mem)) {
		x.Status = 3
		w.tell(api.Event{Kind: 13, Who: who, Pc: pc})
		return
	}
	x.Pc++
	if asks {
		w.ask(who, i, api.Event{Who: who, Pc: pc, Addr: int(i.K + base)})
	} else {
		w.alone(who, i, api.Event{Who: who, Pc: pc})
	}
}

// alone does an instruction without an address; e has what all its events have.
func (w *told) alone(who int, i api.Instr, e api.Event) {
	x := &w.threads[who]
	r := &x.Regs[i.A]
	switch name := isa.Name(i.Op); name {
	case "halt":
		e.Kind, x.Status, x.Pc = 12, 2, e.Pc
	case "set":
		*r = i.K
	case "move":
		*r = x.Regs[i.B]
	case "jump", "zero", "some":
		if name == "jump" || (name == "zero") == (*r == 0) {
			x.Pc = int(i.K)
		}
	case "fence":
		e.Kind = 5
	case "out":
		e.Kind, e.Value = 6, *r
	case "mark":
		e.Kind, e.Value, e.K = 7, *r, i.K
	case "remote":
		e.Kind = 10
	case "yield":
	default:
		*r, _ = alu.Do(i.Op, x.Regs[i.B], x.Regs[i.C])
	}
	if e.Kind != 0 {
		w.tell(e)
	}
}

// ask does an instruction that asks memory; e has what all its events have.
func (w *told) ask(who int, i api.Instr, e api.Event) {
	x := &w.threads[who]
	r, word := x.Regs[i.A], &w.mem[e.Addr]
	old := *word
	e.Value = old
	answer := old
	switch isa.Name(i.Op) {
	case "load":
		e.Kind = 1
	case "store":
		e.Kind, e.Value, answer = 2, r, r
		*word = r
	case "swap":
		e.Kind, e.Old, e.Value, e.Ok = 4, old, r, true
	case "fetch":
		e.Kind, e.Old, e.Value, e.Ok = 4, old, old+r, true
	case "cas":
		e.Kind, e.Old = 4, old
		if old == r {
			e.Value, e.Ok = x.Regs[i.C], true
		}
	case "wait":
		e.Kind, e.Ok, answer = 8, old == r, 1
		if e.Ok {
			answer, x.Status = 0, 1
			w.sleepers = append(slices.Clone(w.sleepers), kern.Sleeper{Who: who, Addr: e.Addr})
		}
	case "wake":
		left := r
		answer = w.rise(func(s kern.Sleeper) bool {
			if s.Addr != e.Addr || left == 0 {
				return false
			}
			left--
			return true
		})
		e.Kind, e.Value = 9, answer
	}
	if e.Kind == 4 && e.Ok {
		*word = e.Value
	}
	x.Regs[i.A] = answer
	w.tell(e)
}

// is holds all that a machine tells of itself against what it has to, and what is told one by one against the lists.
func is(t *testing.T, m *Machine, want state) {
	t.Helper()
	if got := stateOf(m); !got.same(want) {
		t.Fatalf("it is\n\t%v; want\n\t%v", got, want)
	}
	for who, x := range want.threads {
		if got := m.Thread(who); got != x {
			t.Fatalf("Thread(%d) = %v; want %v", who, got, x)
		}
	}
	n := len(want.events)
	if got := m.Count(); got != n {
		t.Fatalf("Count = %d; want %d", got, n)
	}
	for _, i := range []int{-1, 0, n / 2, n - 1, n} {
		var x api.Event
		if i >= 0 && i < n {
			x = want.events[i]
		}
		if got := m.Event(i); got != x {
			t.Fatalf("Event(%d) = %+v; want %+v", i, got, x)
		}
	}
}

// code answers the code of a text, whose lines are parted by "; ".
func code(t *testing.T, text string) []api.Instr {
	t.Helper()
	l, at, e := asm.Parse(strings.ReplaceAll(text, "; ", "\n"))
	if e != api.OK {
		t.Fatalf("%q: line %d, %d", text, at, e)
	}
	return l
}

// program answers one of threads whose codes are told as texts.
func program(t *testing.T, room int, mem []uint32, texts ...string) api.Program {
	t.Helper()
	p := api.Program{Mem: mem, Room: room}
	for _, text := range texts {
		p.Codes = append(p.Codes, code(t, text))
	}
	return p
}

// made answers a machine of a program that may be.
func made(t *testing.T, p api.Program) *Machine {
	t.Helper()
	m, e := New(p)
	if e != api.OK || m == nil {
		t.Fatalf("New = %v, %d", m, e)
	}
	return m
}

// picks reads picks: s, f or r for the kind, and the thread behind it.
func picks(t *testing.T, text string) []api.Pick {
	t.Helper()
	var l []api.Pick
	for _, word := range strings.Fields(text) {
		kind := strings.Index("sfr", word[:1])
		if kind < 0 || len(word) != 2 {
			t.Fatalf("%q is no pick", word)
		}
		l = append(l, api.Pick{Kind: kind, Who: int(word[1] - '0')})
	}
	return l
}

// rig is a machine that is run on and on, and how many of its events have been looked at.
type rig struct {
	*testing.T
	m    *Machine
	seen int
}

func rigOf(t *testing.T, mem []uint32, texts ...string) *rig {
	t.Helper()
	return &rig{T: t, m: made(t, program(t, 1, mem, texts...))}
}

// tells does picks, and holds the events that they add against what these have to be.
func (r *rig) tells(text string, want ...api.Event) {
	r.Helper()
	r.m.Run(picks(r.T, text))
	l := r.m.Events()
	if got := l[r.seen:]; !slices.Equal(got, want) {
		r.Errorf("%s: it tells\n\t%+v; want\n\t%+v", text, got, want)
	}
	r.seen = len(l)
}

// still holds that picks, each of them, change nothing.
func (r *rig) still(text string) {
	r.Helper()
	for _, x := range picks(r.T, text) {
		r.stays(x)
	}
}

// stays holds that a pick changes nothing.
func (r *rig) stays(x api.Pick) {
	r.Helper()
	was := stateOf(r.m)
	r.m.Pick(x)
	if is := stateOf(r.m); !is.same(was) {
		r.Errorf("%+v: it was\n\t%v; is\n\t%v", x, was, is)
	}
}

func (r *rig) mem(want ...uint32) {
	r.Helper()
	if l := r.m.Mem(); !slices.Equal(l, want) {
		r.Errorf("Mem = %v; want %v", l, want)
	}
}

func (r *rig) thread(who, pc, status int, regs ...uint32) {
	r.Helper()
	want := api.Thread{Pc: pc, Status: status}
	copy(want.Regs[:], regs)
	if x := r.m.Thread(who); x != want {
		r.Errorf("the thread %d is %v; want %v", who, x, want)
	}
}

func (r *rig) sleepers(want ...kern.Sleeper) {
	r.Helper()
	if l := r.m.Sleepers(); !slices.Equal(l, want) {
		r.Errorf("Sleepers = %v; want %v", l, want)
	}
}

func (r *rig) done(want bool) {
	r.Helper()
	if r.m.Done() != want {
		r.Errorf("Done = %v; %v", r.m.Done(), stateOf(r.m))
	}
}

// strangers are numbers of no thread of eight.
var strangers = []int{-1, -2, -8, 8, 9, 16, 256, 1 << 32, 1<<32 + 1, -1 << 32, math.MaxInt32, math.MinInt32, math.MaxInt, math.MinInt}

// anyNumber makes one number of another one, so that scripts and programs may be told by numbers.
type anyNumber uint64

func (n *anyNumber) below(limit int) int {
	*n = *n*6364136223846793005 + 1442695040888963407
	x := uint64(*n)
	x ^= x >> 33
	x *= 0xff51afd7ed558ccd
	x ^= x >> 33
	return int(x % uint64(limit))
}

// anyInstr answers one that may stand in a code of size; those that ask memory come most often, and seldom ask beyond it.
func (n *anyNumber) anyInstr(size, words int) api.Instr {
	often := []int{api.Load, api.Store, api.Store, api.Store, api.Load, api.Wait, api.Wake, api.Swap, api.Remote}
	op := n.below(28)
	if n.below(3) > 0 {
		op = often[n.below(len(often))]
	}
	i := api.Instr{Op: op}
	switch {
	case isa.Jumps(op):
		i.K = uint32(n.below(size + 1))
		if op != api.Jump {
			i.A = n.below(3)
		}
	case isa.Asks(op):
		i.A, i.B, i.K = n.below(3), api.None, uint32(n.below(max(words, 1)))
		if op == api.Cas {
			i.C = n.below(3)
		}
		if n.below(12) == 0 {
			i.B = n.below(4)
		}
	case alu.Is(op):
		i.A, i.B, i.C = n.below(3), n.below(3), n.below(3)
	case op == api.Move:
		i.A, i.B = n.below(3), n.below(3)
	case op == api.Set, op == api.Mark:
		i.A, i.K = n.below(3), uint32(n.below(4))
	case op == api.Out:
		i.A = n.below(3)
	}
	return i
}

// anyProgram answers a program by numbers: of few threads, words and values, so that they meet often.
func (n *anyNumber) anyProgram() api.Program {
	p := api.Program{Room: 1 + n.below(4), Mem: make([]uint32, n.below(6))}
	if n.below(20) == 0 {
		p.Room = api.MaxRoom
	}
	for at := range p.Mem {
		p.Mem[at] = uint32(n.below(3))
	}
	for range 1 + n.below(4) {
		size := n.below(14)
		l := make([]api.Instr, size)
		for at := range l {
			l[at] = n.anyInstr(size, len(p.Mem))
		}
		if size > 0 && n.below(2) == 0 {
			l[size-1] = api.Instr{Op: api.Jump} // so that there is more to see
		}
		p.Codes = append(p.Codes, l)
	}
	return p
}

// anyPick answers a pick: seldom of a thread or of a kind that there isn't.
func (n *anyNumber) anyPick(threads int) api.Pick {
	x := api.Pick{Kind: n.below(3) * n.below(2), Who: n.below(threads)}
	if n.below(30) == 0 {
		x.Who = []int{-1, threads, threads + 1}[n.below(3)]
	}
	if n.below(30) == 0 {
		x.Kind = []int{-1, 3, 4}[n.below(3)]
	}
	return x
}
