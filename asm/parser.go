package asm

import (
	"strings"

	"deadlatch/api"
	"deadlatch/isa"
)

// parser holds what the lines so far tell.
type parser struct {
	code   []api.Instr
	lines  []int // the number of each instruction's line
	places map[string]int
	jumps  []jump
}

// jump is an instruction that jumps: where it stands, and the name that it jumps to; none, if it is by a number.
type jump struct {
	at int
	to string
}

// read reads the line of that number. What is wrong with it comes as a panic, from as deep as it is found.
func (p *parser) read(s string, number int) (wrong api.Errno) {
	defer func() {
		switch r := recover().(type) {
		case nil:
		case api.Errno:
			wrong = r
		default:
			panic(r)
		}
	}()
	if s == "" {
		return api.OK
	}
	if name, ok := strings.CutSuffix(s, ":"); ok {
		p.name(name)
	} else {
		p.add(lineOf(s), number)
	}
	return api.OK
}

// name names the place where the next instruction will stand.
func (p *parser) name(name string) {
	insist(Name(name), api.ErrForm)
	_, twice := p.places[name]
	insist(!twice, api.ErrTwice)
	p.places[name] = len(p.code)
}

// add adds the instruction of the line of that number.
func (p *parser) add(l line, number int) {
	insist(len(p.code) < api.MaxCode, api.ErrLong)
	if isa.Jumps(l.instr.Op) {
		p.jumps = append(p.jumps, jump{at: len(p.code), to: l.to})
	}
	p.code = append(p.code, l.instr)
	p.lines = append(p.lines, number)
}

// settle lets the jumps go to their places, which are all known only behind the last line; else it answers the first line that jumps to none.
func (p *parser) settle() (int, api.Errno) {
	for _, j := range p.jumps {
		i := &p.code[j.at]
		if j.to != "" {
			place, ok := p.places[j.to]
			if !ok {
				return p.lines[j.at], api.ErrNone
			}
			i.K = uint32(place)
		}
		// All but the place was looked at when the line was read.
		if !isa.Right(*i, len(p.code)) {
			return p.lines[j.at], api.ErrNone
		}
	}
	return 0, api.OK
}
