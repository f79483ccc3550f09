package code

import "deadlatch/api"

// reader takes from bytes, one number behind the other.
type reader struct {
	rest  []byte
	short bool // more was asked for than there was
}

// take answers the next n bytes. Once there were too few it answers none, so that who takes asks only at the end whether all was there.
func (r *reader) take(n int) []byte {
	if len(r.rest) < n {
		r.short = true
	}
	if r.short {
		return nil
	}
	b := r.rest[:n]
	r.rest = r.rest[n:]
	return b
}

// number takes a number of so many bytes.
func (r *reader) number(size int) uint32 {
	n := uint32(0)
	for at, b := range r.take(size) {
		n |= uint32(b) << (8 * at)
	}
	return n
}

func (r *reader) field() int { return int(r.number(fieldSize)) }

func (r *reader) count() int { return int(r.number(countSize)) }

func (r *reader) word() uint32 { return r.number(wordSize) }

func (r *reader) instr() api.Instr {
	return api.Instr{Op: r.field(), A: r.field(), B: r.field(), C: r.field(), K: r.word()}
}

// program takes what stands behind the head.
func (r *reader) program() api.Program {
	threads := r.field()
	p := api.Program{Room: r.field()}
	p.Mem = r.words()
	for range threads {
		p.Codes = append(p.Codes, r.code())
	}
	return p
}

// words takes how many words there are, and these.
func (r *reader) words() []uint32 {
	var l []uint32
	for n := r.count(); n > 0 && !r.short; n-- {
		l = append(l, r.word())
	}
	return l
}

// code takes how many instructions there are, and these.
func (r *reader) code() []api.Instr {
	var l []api.Instr
	for n := r.count(); n > 0 && !r.short; n-- {
		l = append(l, r.instr())
	}
	return l
}
