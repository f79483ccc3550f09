package tso

import (
	"slices"

	"deadlatch/api"
	"deadlatch/buf"
	"deadlatch/core"
)

// side is a thread's side of the machine: what is its own, and its way to what all share. A thread is asleep in the machine's queue just as long as it is Blocked.
type side struct {
	m      *Machine
	who    int
	code   []api.Instr
	thread api.Thread
	buf    buf.Buf
	port   core.Port
}

// newSide answers the side of a thread that did nothing yet, in a program that was found right: its room is one that a buffer may have.
func newSide(m *Machine, who int, code []api.Instr, room int) *side {
	s := &side{m: m, who: who, code: slices.Clone(code)}
	s.buf, _ = buf.New(room)
	s.port = s.newPort()
	return s
}

// newPort answers what the thread asks in its steps. It is made once: the side that it asks stays the same.
func (s *side) newPort() core.Port {
	return core.Port{
		Size:   len(s.m.mem),
		Load:   s.load,
		Room:   s.room,
		Store:  s.store,
		Empty:  s.empty,
		Flush:  s.flush,
		Swap:   s.swap,
		Sleep:  s.sleep,
		Wake:   s.wake,
		Remote: s.remote,
		Note:   s.note,
	}
}

// step lets the thread do its next instruction.
func (s *side) step() { s.thread = core.Step(s.thread, s.code, s.port) }

// load answers what the thread finds: its own stores are seen by itself ahead of all others.
func (s *side) load(addr int) uint32 {
	if v, ok := s.buf.Find(addr); ok {
		return v
	}
	return s.m.mem[addr]
}

func (s *side) room() bool { return !s.buf.Full() }

func (s *side) store(addr int, v uint32) { s.buf, _ = s.buf.Put(api.Entry{Addr: addr, Value: v}) }

func (s *side) empty() bool { return s.buf.Len() == 0 }

// flush puts the oldest entry into memory, if there is one. Whoever has it done, the event is this thread's, and of no place of its code.
func (s *side) flush() {
	x, rest, ok := s.buf.Pop()
	if !ok {
		return
	}
	s.buf = rest
	s.m.mem[x.Addr] = x.Value
	s.note(api.Event{Kind: api.EvFlush, Addr: x.Addr, Value: x.Value})
}

// swap goes past the buffer: what swaps is done with an empty one alone.
func (s *side) swap(addr int, v uint32) uint32 {
	old := s.m.mem[addr]
	s.m.mem[addr] = v
	return old
}

// sleep lets the thread sleep; that it is Blocked its step says.
func (s *side) sleep(addr int) { s.m.queue.Sleep(s.who, addr) }

func (s *side) wake(addr int, n uint32) uint32 {
	woken := s.m.queue.Wake(addr, n)
	for _, who := range woken {
		s.m.sides[who].thread.Status = api.Running
	}
	return uint32(len(woken))
}

// rouse wakes the thread without need.
func (s *side) rouse() {
	if !s.m.queue.Rouse(s.who) {
		return
	}
	s.thread.Status = api.Running
	s.note(api.Event{Kind: api.EvRouse})
}

// remote empties all buffers, the thread's own included.
func (s *side) remote() {
	for _, other := range s.m.sides {
		for !other.empty() {
			other.flush()
		}
	}
}

// note adds an event of this thread.
func (s *side) note(x api.Event) {
	x.Who = s.who
	s.m.events = append(s.m.events, x)
}

// hasEnded tells whether the thread will do nothing more, whatever is picked.
func (s *side) hasEnded() bool {
	return s.thread.Status != api.Running && s.thread.Status != api.Blocked
}
