// Package alu is layer 1: words of 32 bits, and what is done with them.
package alu

import "deadlatch/api"

// word carries the operations as methods, so that a table can name them by method expressions.
type word uint32

func (a word) add(b word) word { return a + b }
func (a word) sub(b word) word { return a - b }
func (a word) mul(b word) word { return a * b }
func (a word) and(b word) word { return a & b }
func (a word) or(b word) word  { return a | b }
func (a word) xor(b word) word { return a ^ b }

// Go's own shifts go on to all zeros from 32 places on: a word's places are counted round.
func (a word) shl(b word) word { return a << (b % 32) }
func (a word) shr(b word) word { return a >> (b % 32) }

func (a word) less(b word) word { return truth(a < b) }
func (a word) same(b word) word { return truth(a == b) }

func truth(b bool) word {
	if b {
		return 1
	}
	return 0
}

// operation is what a method of word is, seen from outside of it.
type operation func(a, b word) word

// operations stands by api's numbers, so the places ahead of Add are nil: ask Is first.
func operations() [api.Same + 1]operation {
	return [api.Same + 1]operation{
		api.Add:  word.add,
		api.Sub:  word.sub,
		api.Mul:  word.mul,
		api.And:  word.and,
		api.Or:   word.or,
		api.Xor:  word.xor,
		api.Shl:  word.shl,
		api.Shr:  word.shr,
		api.Less: word.less,
		api.Same: word.same,
	}
}

// Is tells whether an operation is one of two words.
func Is(op int) bool { return api.Add <= op && op <= api.Same }

// Do answers what an operation makes of two words.
func Do(op int, a, b uint32) (uint32, bool) {
	if !Is(op) {
		return 0, false
	}
	table := operations()
	return uint32(table[op](word(a), word(b))), true
}

// Fold does an operation with one word behind the other.
func Fold(op int, first uint32, l []uint32) (uint32, bool) {
	if !Is(op) {
		return 0, false
	}
	table := operations()
	does, sofar := table[op], word(first)
	for _, next := range l {
		sofar = does(sofar, word(next))
	}
	return uint32(sofar), true
}

// Minus answers the word that comes to 0 with another one.
func Minus(n uint32) uint32 { return -n }
