package asm

import (
	"strconv"
	"strings"

	"deadlatch/api"
	"deadlatch/isa"
)

// line is a line that is an instruction. Where it jumps to a name, the instruction's place isn't known from the line alone.
type line struct {
	instr api.Instr
	to    string
}

// word is one behind an instruction's name: how it is taken from a text, and how it is told in one.
type word struct {
	take func(l *line, s string)
	tell func(l *line) string
}

// words answers what stands behind the name of a kind, in order. Taking and telling go by the same list, so that what is told is taken again.
func words(op int) []word {
	a := word{(*line).takeA, (*line).tellA}
	b := word{(*line).takeB, (*line).tellB}
	c := word{(*line).takeC, (*line).tellC}
	k := word{(*line).takeK, (*line).tellK}
	place := word{(*line).takePlace, (*line).tellPlace}
	address := word{(*line).takeAddress, (*line).tellAddress}
	switch op {
	case api.Set, api.Mark:
		return []word{a, k}
	case api.Move:
		return []word{a, b}
	case api.Add, api.Sub, api.Mul, api.And, api.Or, api.Xor, api.Shl, api.Shr, api.Less, api.Same:
		return []word{a, b, c}
	case api.Jump:
		return []word{place}
	case api.Zero, api.Some:
		return []word{a, place}
	case api.Load, api.Store, api.Swap, api.Fetch, api.Wait, api.Wake:
		return []word{a, address}
	case api.Cas:
		return []word{a, c, address}
	case api.Out:
		return []word{a}
	}
	return nil
}

// insist gives the line up, unless ok: who reads a word then needn't ask whether the words ahead of it went well.
func insist(ok bool, wrong api.Errno) {
	if !ok {
		panic(wrong)
	}
}

// lineOf reads a line that is an instruction.
func lineOf(s string) line {
	l := line{}
	told := strings.Split(s, blank)
	op, ok := isa.Number(told[0])
	insist(ok, api.ErrForm)
	l.instr.Op = op
	asked := words(op)
	insist(len(told) == 1+len(asked), api.ErrForm)
	for at, w := range asked {
		w.take(&l, told[1+at])
	}
	return l
}

// tell answers the line of an instruction that may stand in a code.
func (l *line) tell() string {
	told := []string{isa.Name(l.instr.Op)}
	for _, w := range words(l.instr.Op) {
		told = append(told, w.tell(l))
	}
	return strings.Join(told, blank)
}

func (l *line) takeA(s string) { l.instr.A = takeRegister(s) }

func (l *line) takeB(s string) { l.instr.B = takeRegister(s) }

func (l *line) takeC(s string) { l.instr.C = takeRegister(s) }

func (l *line) takeK(s string) { l.instr.K = takeNumber(s) }

func (l *line) takePlace(s string) {
	s, ok := strings.CutPrefix(s, "@")
	insist(ok, api.ErrForm)
	if Name(s) {
		l.to = s
		return
	}
	l.instr.K = takeNumber(s)
}

func (l *line) takeAddress(s string) {
	s, opened := strings.CutPrefix(s, "[")
	s, closed := strings.CutSuffix(s, "]")
	insist(opened && closed, api.ErrForm)
	l.instr.B = api.None
	if base, k, ok := strings.Cut(s, "+"); ok {
		l.instr.B = takeRegister(base)
		s = k
	}
	l.instr.K = takeNumber(s)
}

func (l *line) tellA() string { return tellRegister(l.instr.A) }

func (l *line) tellB() string { return tellRegister(l.instr.B) }

func (l *line) tellC() string { return tellRegister(l.instr.C) }

func (l *line) tellK() string { return tellNumber(l.instr.K) }

func (l *line) tellPlace() string { return "@" + tellNumber(l.instr.K) }

func (l *line) tellAddress() string {
	if l.instr.B == api.None {
		return "[" + tellNumber(l.instr.K) + "]"
	}
	return "[" + tellRegister(l.instr.B) + "+" + tellNumber(l.instr.K) + "]"
}

func takeRegister(s string) int {
	insist(len(s) == 2 && s[0] == 'r' && '0' <= s[1] && s[1] < '0'+api.Regs, api.ErrForm)
	return int(s[1] - '0')
}

func takeNumber(s string) uint32 {
	n, err := strconv.ParseUint(s, 10, 32)
	insist(err == nil && (s == "0" || s[0] != '0'), api.ErrForm)
	return uint32(n)
}

func tellRegister(n int) string { return "r" + strconv.Itoa(n) }

func tellNumber(n uint32) string { return strconv.FormatUint(uint64(n), 10) }
