package core

import (
	"fmt"
	"math"
	"slices"
	"testing"

	"deadlatch/api"
	"deadlatch/isa"
)

// ask is one thing that a port was asked, by the name of its field.
type ask struct {
	what string
	addr int
	v    uint32
	x    api.Event
}

func flush() ask                      { return ask{what: "Flush"} }
func empty() ask                      { return ask{what: "Empty"} }
func room() ask                       { return ask{what: "Room"} }
func remote() ask                     { return ask{what: "Remote"} }
func load(addr int) ask               { return ask{what: "Load", addr: addr} }
func sleep(addr int) ask              { return ask{what: "Sleep", addr: addr} }
func store(addr int, v uint32) ask    { return ask{what: "Store", addr: addr, v: v} }
func swap(addr int, v uint32) ask     { return ask{what: "Swap", addr: addr, v: v} }
func wake(addr int, n uint32) ask     { return ask{what: "Wake", addr: addr, v: n} }
func note(x api.Event) ask            { return ask{what: "Note", x: x} }
func noteOf(kind, pc int) ask         { return note(api.Event{Kind: kind, Pc: pc}) }
func asks(l ...ask) []ask             { return l }
func code(l ...api.Instr) []api.Instr { return l }

// answers are what a port tells.
type answers struct {
	size             int
	load, swap, wake uint32
	room, empty      bool
}

// free is a port of eight words whose buffer has nothing, and has room. What Swap tells is nothing that the table speaks of.
var free = answers{size: 8, load: 40, swap: 999, wake: 3, room: true, empty: true}

// port answers a port that tells a, and writes down all that it is asked.
func (a answers) port(l *[]ask) Port {
	add := func(x ask) { *l = append(*l, x) }
	return Port{
		Size:   a.size,
		Load:   func(addr int) uint32 { add(load(addr)); return a.load },
		Room:   func() bool { add(room()); return a.room },
		Store:  func(addr int, v uint32) { add(store(addr, v)) },
		Empty:  func() bool { add(empty()); return a.empty },
		Flush:  func() { add(flush()) },
		Swap:   func(addr int, v uint32) uint32 { add(swap(addr, v)); return a.swap },
		Sleep:  func(addr int) { add(sleep(addr)) },
		Wake:   func(addr int, n uint32) uint32 { add(wake(addr, n)); return a.wake },
		Remote: func() { add(remote()) },
		Note:   func(x api.Event) { add(note(x)) },
	}
}

// told is a step as the document tells it: the thread behind it, and what is asked.
func told(t api.Thread, code []api.Instr, a answers) (api.Thread, []ask) {
	if t.Status != 0 {
		return t, nil
	}
	was := t.Pc
	stop := func(status, event int) (api.Thread, []ask) {
		t.Status = status
		return t, asks(noteOf(event, was))
	}
	if was < 0 || was > len(code)-1 {
		return stop(2, 12)
	}
	i := code[was]
	if !isa.Right(i, len(code)) {
		return stop(3, 13)
	}
	far := uint64(i.K)
	if i.Op >= 16 && i.B != 8 {
		far = (far + uint64(t.Regs[i.B])) % (1 << 32)
	}
	name := isa.Name(i.Op)
	if slices.Contains([]string{"load", "store", "swap", "fetch", "cas", "wait", "wake"}, name) && (a.size < 0 || far >= uint64(a.size)) {
		return stop(3, 13)
	}
	var ahead []ask
	if slices.Contains([]string{"fence", "swap", "fetch", "cas", "wait", "wake", "remote"}, name) {
		ahead = asks(empty())
		if !a.empty {
			return t, asks(empty(), flush())
		}
	}
	if name == "store" {
		ahead = asks(room())
		if !a.room {
			return t, asks(room(), flush())
		}
	}
	if name == "halt" {
		return stop(2, 12)
	}
	t.Pc++
	done := tells(&t, name, i, int(far), was, a)
	return t, append(ahead, done...)
}

// tells is the table of what is done, from set on; Pc is one more already.
func tells(t *api.Thread, name string, i api.Instr, m, was int, a answers) []ask {
	r := t.Regs[i.A]
	set := func(v uint32) { t.Regs[i.A] = v }
	bit := map[bool]uint32{true: 1}
	switch name {
	case "set":
		set(i.K)
	case "move":
		set(t.Regs[i.B])
	case "add":
		set(t.Regs[i.B] + t.Regs[i.C])
	case "sub":
		set(t.Regs[i.B] - t.Regs[i.C])
	case "mul":
		set(t.Regs[i.B] * t.Regs[i.C])
	case "and":
		set(t.Regs[i.B] & t.Regs[i.C])
	case "or":
		set(t.Regs[i.B] | t.Regs[i.C])
	case "xor":
		set(t.Regs[i.B] ^ t.Regs[i.C])
	case "shl":
		set(t.Regs[i.B] << (t.Regs[i.C] & 31))
	case "shr":
		set(t.Regs[i.B] >> (t.Regs[i.C] & 31))
	case "less":
		set(bit[t.Regs[i.B] < t.Regs[i.C]])
	case "same":
		set(bit[t.Regs[i.B] == t.Regs[i.C]])
	case "jump":
		t.Pc = int(i.K)
	case "zero":
		if r == 0 {
			t.Pc = int(i.K)
		}
	case "some":
		if r > 0 {
			t.Pc = int(i.K)
		}
	case "load":
		set(a.load)
		return asks(load(m), note(api.Event{Kind: 1, Pc: was, Addr: m, Value: a.load}))
	case "store":
		return asks(store(m, r), note(api.Event{Kind: 2, Pc: was, Addr: m, Value: r}))
	case "fence":
		return asks(noteOf(5, was))
	case "swap":
		set(a.load)
		return asks(load(m), swap(m, r), note(api.Event{Kind: 4, Pc: was, Addr: m, Value: r, Old: a.load, Ok: true}))
	case "fetch":
		set(a.load)
		return asks(load(m), swap(m, a.load+r), note(api.Event{Kind: 4, Pc: was, Addr: m, Value: a.load + r, Old: a.load, Ok: true}))
	case "cas":
		c := t.Regs[i.C]
		set(a.load)
		if a.load == r {
			return asks(load(m), swap(m, c), note(api.Event{Kind: 4, Pc: was, Addr: m, Value: c, Old: a.load, Ok: true}))
		}
		return asks(load(m), note(api.Event{Kind: 4, Pc: was, Addr: m, Value: a.load, Old: a.load}))
	case "out":
		return asks(note(api.Event{Kind: 6, Pc: was, Value: r}))
	case "wait":
		if a.load == r {
			set(0)
			t.Status = 1
			return asks(load(m), note(api.Event{Kind: 8, Pc: was, Addr: m, Value: a.load, Ok: true}), sleep(m))
		}
		set(1)
		return asks(load(m), note(api.Event{Kind: 8, Pc: was, Addr: m, Value: a.load}))
	case "wake":
		set(a.wake)
		return asks(wake(m, r), note(api.Event{Kind: 9, Pc: was, Addr: m, Value: a.wake}))
	case "remote":
		return asks(remote(), noteOf(10, was))
	case "mark":
		return asks(note(api.Event{Kind: 7, Pc: was, Value: r, K: i.K}))
	}
	return nil
}

// is holds a step, and what it asked, against what they have to be.
func is(t *testing.T, x api.Thread, l []api.Instr, a answers, want api.Thread, wanted []ask) {
	t.Helper()
	var got []ask
	y := Step(x, l, a.port(&got))
	if y != want || !slices.Equal(got, wanted) {
		t.Errorf("%s: thread %v asked\n\t%v, is %v;\nwant\n\t%v, %v", at(x, l), x, got, y, wanted, want)
	}
}

// isAsTold holds a step against the document's.
func isAsTold(t *testing.T, x api.Thread, l []api.Instr, a answers) {
	t.Helper()
	want, wanted := told(x, l, a)
	is(t, x, l, a, want, wanted)
}

// at names the instruction that a thread is at.
func at(x api.Thread, l []api.Instr) string {
	if x.Pc < 0 || x.Pc >= len(l) {
		return fmt.Sprintf("%d of %d", x.Pc, len(l))
	}
	return fmt.Sprintf("%s %+v, %d of %d", isa.Name(l[x.Pc].Op), l[x.Pc], x.Pc, len(l))
}

// regs answers a thread at a place, with these registers from 0 on.
func regs(pc int, l ...uint32) api.Thread {
	x := api.Thread{Pc: pc}
	copy(x.Regs[:], l)
	return x
}

// with answers a thread whose register n is v.
func with(x api.Thread, n int, v uint32) api.Thread {
	x.Regs[n] = v
	return x
}

// padded answers a code that has i behind so many instructions, and ahead of so many.
func padded(before int, i api.Instr, after int) []api.Instr {
	l := make([]api.Instr, before+1+after)
	for n := range l {
		l[n] = api.Instr{Op: api.Yield}
	}
	l[before] = i
	return l
}

const top = math.MaxUint32

// strangers are numbers of no register, and of no place of a short code.
var strangers = []int{-1, 9, 10, -8, -9, 16, 255, 256, 1 << 32, 1<<32 + 1, 1<<32 + 8, -1 << 32, math.MaxInt32, math.MinInt32, math.MaxInt, math.MinInt}
