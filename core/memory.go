package core

import "deadlatch/api"

// asked does what asks memory; m is the address, below the memory's size.
func asked(t api.Thread, i api.Instr, p Port) api.Thread {
	m := int(Address(t, i))
	switch i.Op {
	case api.Load:
		return loaded(t, i, p, m)
	case api.Store:
		return stored(t, i, p, m)
	case api.Wait:
		return waited(t, i, p, m)
	case api.Wake:
		return woke(t, i, p, m)
	}
	return swapped(t, i, p, m)
}

func loaded(t api.Thread, i api.Instr, p Port, m int) api.Thread {
	v := p.Load(m)
	p.Note(api.Event{Kind: api.EvLoad, Pc: t.Pc, Addr: m, Value: v})
	t.Regs[i.A] = v
	return t
}

func stored(t api.Thread, i api.Instr, p Port, m int) api.Thread {
	v := t.Regs[i.A]
	p.Store(m, v)
	p.Note(api.Event{Kind: api.EvStore, Pc: t.Pc, Addr: m, Value: v})
	return t
}

// swapped does swap, fetch and cas: a load, and, if it found what it has to, a word in its stead.
func swapped(t api.Thread, i api.Instr, p Port, m int) api.Thread {
	old := p.Load(m)
	v, ok := inStead(t, i, old)
	if ok {
		p.Swap(m, v)
	}
	p.Note(api.Event{Kind: api.EvSwap, Pc: t.Pc, Addr: m, Value: v, Old: old, Ok: ok})
	t.Regs[i.A] = old
	return t
}

// inStead answers the word that has to stand where old stood, and whether it is put there.
func inStead(t api.Thread, i api.Instr, old uint32) (uint32, bool) {
	r := t.Regs[i.A]
	switch i.Op {
	case api.Fetch:
		return old + r, true
	case api.Cas:
		if old != r {
			return old, false
		}
		return t.Regs[i.C], true
	}
	return r, true
}

// waited lets a thread sleep, if it finds what it thinks is there. It sleeps behind the instruction, so that it goes on there, with 0, when it is woken.
func waited(t api.Thread, i api.Instr, p Port, m int) api.Thread {
	v := p.Load(m)
	ok := v == t.Regs[i.A]
	p.Note(api.Event{Kind: api.EvWait, Pc: t.Pc, Addr: m, Value: v, Ok: ok})
	if !ok {
		t.Regs[i.A] = 1
		return t
	}
	t.Regs[i.A] = 0
	p.Sleep(m)
	t.Status = api.Blocked
	return t
}

func woke(t api.Thread, i api.Instr, p Port, m int) api.Thread {
	n := p.Wake(m, t.Regs[i.A])
	p.Note(api.Event{Kind: api.EvWake, Pc: t.Pc, Addr: m, Value: n})
	t.Regs[i.A] = n
	return t
}
