package trace

import (
	"slices"
	"strings"
	"testing"

	"deadlatch/api"
	"deadlatch/asm"
	"deadlatch/pick"
	"deadlatch/sc"
	"deadlatch/tso"
)

// All lists of up to five events, of few kinds, threads and sites, so that they meet in all ways.
func TestAllShortLists(t *testing.T) { // 11.1, 11.2, 11.3
	some := befell(t, "0m0 0m1 0m2 0m3 0l5 0f5 1m0 1m1 1w5 8m0 0o5")
	var try func(l []api.Event)
	try = func(l []api.Event) {
		agrees(t, l, len(l)%2, 5)
		if len(l) == 5 || t.Failed() {
			return
		}
		for _, x := range some {
			try(append(l[:len(l):len(l)], x))
		}
	}
	try(nil)
}

// marked are codes whose calls swap, store, sleep and wake; the last thread's marks fit nothing.
var marked = []string{
	"mark r7 0; set r1 1; fetch r1 [0]; mark r1 1; out r1; mark r7 2; store r1 [1]; load r2 [1]; mark r2 3; jump @0",
	"mark r7 4; load r3 [0]; wait r3 [0]; mark r3 5; out r3; set r4 9; store r4 [2]; cas r5 r4 [1]; mark r5 7; jump @0",
	"mark r7 6; set r1 8; wake r1 [0]; mark r1 7; swap r1 [2]; out r1; mark r1 8; store r1 [3]; mark r1 10; remote; mark r1 9; jump @0",
	"mark r7 1; load r1 [2]; mark r1 4; mark r1 4; out r1; mark r1 7; store r1 [0]; mark r1 5; load r1 [9]",
}

func program(t *testing.T) api.Program {
	t.Helper()
	p := api.Program{Mem: make([]uint32, 4), Room: 2}
	for _, text := range marked {
		l, at, e := asm.Parse(strings.ReplaceAll(text, "; ", "\n"))
		if e != api.OK {
			t.Fatalf("%q: line %d, %d", text, at, e)
		}
		p.Codes = append(p.Codes, l)
	}
	return p
}

// script makes picks of a number, so that turns may be told by numbers.
func script(seed, n int) []api.Pick {
	x := uint32(seed)
	b := make([]byte, n)
	for i := range b {
		x = x*1664525 + 1013904223
		b[i] = byte(x>>24)%8%4 + 8*(byte(x>>16)%5%3)
	}
	return pick.Read(b)
}

// Of what befell on machines all is told as the document says, and what a word of memory got last is in memory.
func TestOnMachines(t *testing.T) { // 11.1, 11.2, 11.3
	p := program(t)
	ended := 0
	for seed := range 300 {
		l := script(seed, 400)
		m, e := tso.New(p)
		o, f := sc.New(p)
		if e != api.OK || f != api.OK {
			t.Fatalf("New = %d, %d", e, f)
		}
		m.Run(l)
		o.Run(l)
		events, mem := m.Events(), m.Mem()
		for who := range len(p.Codes) + 1 {
			agrees(t, events, who, who)
			agrees(t, o.Events(), who, who)
		}
		for addr, want := range mem {
			got := Values(events, addr)
			if last := append([]uint32{0}, got...); last[len(last)-1] != want {
				t.Errorf("the word %d is %d; it got %v", addr, want, got)
			}
		}
		for _, c := range Calls(events) {
			if c.Ended >= 0 {
				ended++
			}
		}
		if t.Failed() {
			t.Fatalf("by the script %d", seed)
		}
	}
	if ended < 1000 {
		t.Errorf("only %d calls ended", ended)
	}
}

// One run, told by hand: the store that a call did is flushed within the next one, and counts in neither.
func TestOnAMachineByHand(t *testing.T) { // 11.1, 11.2
	p := program(t)
	m, e := tso.New(p)
	if e != api.OK {
		t.Fatalf("New = %d", e)
	}
	step, flush := api.Pick{}, api.Pick{Kind: api.Flush}
	m.Run(slices.Repeat([]api.Pick{step}, 11))
	m.Run([]api.Pick{flush, step, step, step, step})
	l := m.Events()
	calls(t, l,
		Call{Began: 0, Ended: 2, Inner: []int{1}},
		Call{Site: 1, Began: 4, Ended: 7, Inner: []int{5, 6}},
		Call{Began: 8, Ended: 11, Result: 1, Inner: []int{10}})
	outs(t, l, 0, 0, 1)
	values(t, l, 0, 1, 2)
	values(t, l, 1, 0)
	goes(t, l, 1)
}

// FuzzTrace makes events of bytes, and holds what is told of them against the document's words.
func FuzzTrace(f *testing.F) { // 11.1, 11.2, 11.3
	f.Add([]byte("\x07\x00\x04\x01\x00\x05\x07\x00\x05"), 0, 5)
	f.Add([]byte("\x07\x01\x02\x07\x00\x00\x01\x01\x05\x03\x01\x05\x07\x01\x09\x07\x01\x03\x06\x01\x00\x07\x00\x06\x14\x00\x05"), 1, 5)
	f.Fuzz(func(t *testing.T, b []byte, who, addr int) {
		var l []api.Event
		for ; len(b) >= 3; b = b[3:] {
			l = append(l, api.Event{Kind: int(b[0]) % 16, Ok: b[0] >= 16, Who: int(b[1])%10 - 1, Addr: int(b[2]), K: uint32(b[2]), Value: uint32(len(b))})
		}
		agrees(t, l, who, addr)
	})
}
