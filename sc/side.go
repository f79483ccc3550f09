package sc

import (
	"slices"

	"deadlatch/api"
	"deadlatch/core"
)

// side is a thread's side of the machine: what is its own, and its way to what all share. A thread is asleep in the machine's queue just as long as it is Blocked.
type side struct {
	m      *Machine
	who    int
	code   []api.Instr
	thread api.Thread
	port   core.Port
}

// newSide answers the side of a thread that did nothing yet, in a program that was found right.
func newSide(m *Machine, who int, code []api.Instr) *side {
	s := &side{m: m, who: who, code: slices.Clone(code)}
	s.port = s.newPort()
	return s
}

// newPort answers what the thread asks in its steps: of the machine what is the same for all, of its side what is told of it by name; of nobody what has to do with buffers. It is made once: those whom it asks stay the same.
func (s *side) newPort() core.Port {
	return core.Port{
		Size:   len(s.m.mem),
		Load:   s.m.load,
		Room:   always,
		Store:  s.m.store,
		Empty:  always,
		Flush:  nothing,
		Swap:   s.m.swap,
		Sleep:  s.sleep,
		Wake:   s.m.wake,
		Remote: nothing,
		Note:   s.note,
	}
}

// always tells of a buffer that isn't there: it has room, and it is empty.
func always() bool { return true }

// nothing is what is done to buffers where there are none.
func nothing() {}

func (m *Machine) load(addr int) uint32 { return m.mem[addr] }

func (m *Machine) store(addr int, v uint32) { m.mem[addr] = v }

func (m *Machine) swap(addr int, v uint32) uint32 {
	old := m.mem[addr]
	m.mem[addr] = v
	return old
}

func (m *Machine) wake(addr int, n uint32) uint32 {
	woken := m.queue.Wake(addr, n)
	for _, who := range woken {
		m.sides[who].thread.Status = api.Running
	}
	return uint32(len(woken))
}

// step lets the thread do its next instruction.
func (s *side) step() { s.thread = core.Step(s.thread, s.code, s.port) }

// sleep lets the thread sleep; that it is Blocked its step says.
func (s *side) sleep(addr int) { s.m.queue.Sleep(s.who, addr) }

// rouse wakes the thread without need.
func (s *side) rouse() {
	if !s.m.queue.Rouse(s.who) {
		return
	}
	s.thread.Status = api.Running
	s.note(api.Event{Kind: api.EvRouse})
}

// note adds an event of this thread.
func (s *side) note(x api.Event) {
	x.Who = s.who
	s.m.events = append(s.m.events, x)
}

// hasEnded tells whether the thread will do nothing more, whatever is picked.
func (s *side) hasEnded() bool {
	return s.thread.Status != api.Running && s.thread.Status != api.Blocked
}
