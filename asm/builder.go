package asm

import (
	"slices"

	"deadlatch/api"
	"deadlatch/isa"
)

// Builder gathers code.
type Builder struct {
	code   []api.Instr
	places map[string]int
	jumps  []jump // what Go added
	wrong  bool   // there is no code any more, whatever is added
}

// Do adds an instruction.
func (b *Builder) Do(i api.Instr) { b.code = append(b.code, i) }

// At names the place where the next instruction will stand.
func (b *Builder) At(name string) {
	if _, twice := b.places[name]; twice || !Name(name) {
		b.wrong = true
		return
	}
	if b.places == nil {
		b.places = map[string]int{}
	}
	b.places[name] = len(b.code)
}

// Go adds a jump to a place that has a name, sooner or later.
func (b *Builder) Go(op, a int, name string) {
	if !isa.Jumps(op) {
		b.wrong = true
	}
	b.jumps = append(b.jumps, jump{at: len(b.code), to: name})
	b.Do(api.Instr{Op: op, A: a})
}

// Set adds a set.
func (b *Builder) Set(a int, k uint32) { b.Do(api.Instr{Op: api.Set, A: a, K: k}) }

// Alu adds an operation of two registers.
func (b *Builder) Alu(op, a, x, y int) { b.Do(api.Instr{Op: op, A: a, B: x, C: y}) }

// Ask adds what asks memory at an address.
func (b *Builder) Ask(op, a int, addr uint32) {
	b.Do(api.Instr{Op: op, A: a, B: api.None, K: addr})
}

// Cas adds a cas at an address.
func (b *Builder) Cas(a, c int, addr uint32) {
	b.Do(api.Instr{Op: api.Cas, A: a, B: api.None, C: c, K: addr})
}

// Code answers the code, all jumps to where their places are.
func (b *Builder) Code() ([]api.Instr, bool) {
	if b.wrong {
		return nil, false
	}
	code := slices.Clone(b.code)
	for _, j := range b.jumps {
		place, ok := b.places[j.to]
		if !ok {
			return nil, false
		}
		code[j.at].K = uint32(place)
	}
	return code, true
}
