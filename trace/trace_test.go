package trace

import (
	"iter"
	"math"
	"slices"
	"testing"

	"deadlatch/api"
)

func TestOfByHand(t *testing.T) { // 11.1
	l := befell(t, "0l5 1s3 0m4 7h0 1f3 0o0 1l5")
	goes(t, l, 0, 0, 2, 5)
	goes(t, l, 1, 1, 4, 6)
	goes(t, l, 7, 3)
	goes(t, l, 2)
	goes(t, l[1:], 0, 1, 4)
	goes(t, l[:0], 0)
}

// Each event is handed out as it is, all its fields, whatever its kind.
func TestOfHandsOutTheWholeEvent(t *testing.T) { // 11.1
	var l []api.Event
	for _, kind := range []int{-1, 0, 1, 2, 3, 4, 5, 6, 7, 8, 9, 10, 11, 12, 13, 14, math.MinInt, math.MaxInt} {
		l = append(l, api.Event{Kind: kind, Who: 3, Pc: kind - 7, Addr: kind - 9, Value: uint32(kind), Old: uint32(kind) + 1, K: uint32(kind) + 2, Ok: kind%2 == 0})
	}
	n := 0
	for at, x := range Of(l, 3) {
		if at != n || x != l[at] {
			t.Errorf("it tells %d, %+v; want %d, %+v", at, x, n, l[n])
		}
		n++
	}
	if n != len(l) {
		t.Errorf("it tells %d events; there are %d", n, len(l))
	}
}

// Who is no thread has just the events that are of him, too.
func TestOfNoThread(t *testing.T) { // 11.1
	none := befell(t, "0l5 1o3 7m4")
	var l []api.Event
	for _, who := range strangers {
		goes(t, none, who)
		outs(t, none, who)
		l = append(l, api.Event{Kind: api.EvOut, Who: who, Value: uint32(len(l))}, api.Event{Kind: api.EvLoad, Who: 0})
	}
	for i, who := range strangers {
		goes(t, l, who, 2*i)
		outs(t, l, who, uint32(2*i))
	}
	outs(t, l, 0)
}

func TestOfNothing(t *testing.T) { // 11.1, and rule 5
	for _, l := range [][]api.Event{nil, {}, make([]api.Event, 0, 4)} {
		for _, who := range append([]int{0, 1, 7}, strangers...) {
			if Of(l, who) == nil {
				t.Fatalf("Of(%v, %d) is nil", l, who)
			}
			goes(t, l, who)
			outs(t, l, who)
			values(t, l, who)
		}
		calls(t, l)
	}
}

// Who has seen enough is told nothing more.
func TestOfIsLeft(t *testing.T) { // 11.1
	l := befell(t, "0l5 1l5 0s6 0o0 1o0 0h0")
	for enough := 1; enough <= 5; enough++ {
		var got []int
		Of(l, 0)(func(at int, x api.Event) bool {
			got = append(got, at)
			return len(got) < enough
		})
		if want := []int{0, 2, 3, 5}; !slices.Equal(got, want[:min(enough, 4)]) {
			t.Errorf("%d are enough: it tells %v", enough, got)
		}
	}
	for at := range Of(l, 1) {
		if at == 1 {
			break
		}
		t.Errorf("it tells %d", at)
	}
}

// Events may be gone through as often as one likes, and while they are gone through.
func TestOfAgain(t *testing.T) { // 11.1
	seq := Of(befell(t, "1l5 0l5 0s6 1l5 0o0"), 0)
	places := func() []int {
		var l []int
		for at := range seq {
			l = append(l, at)
		}
		return l
	}
	want := []int{1, 2, 4}
	n := 0
	for at := range seq {
		if l := places(); at != want[n] || !slices.Equal(l, want) {
			t.Errorf("it tells %d, and within %v", at, l)
		}
		n++
	}
	next, stop := iter.Pull2(seq)
	defer stop()
	for _, w := range want {
		if at, _, ok := next(); at != w || !ok {
			t.Errorf("pulled: %d, %v; want %d", at, ok, w)
		}
	}
	if _, _, ok := next(); ok || n != 3 {
		t.Errorf("it tells more than there is")
	}
}

// What is told was settled when it was asked, whatever becomes of the list.
func TestOfKeepsNothing(t *testing.T) { // 11.1, and rules 4 and 6
	l := befell(t, "0l5 1l5 0s6 0o0")
	was := slices.Clone(l)
	seq := Of(l, 0)
	fill(l, api.Event{Kind: 99})
	var got []int
	for at, x := range seq {
		if x != was[at] {
			t.Errorf("it tells %d, %+v; it was %+v", at, x, was[at])
		}
		got = append(got, at)
	}
	if !slices.Equal(got, []int{0, 2, 3}) {
		t.Errorf("it tells %v", got)
	}
}

func TestOutsByHand(t *testing.T) { // 11.1
	l := befell(t, "0o0 1o0 0l5 0o7 1s5 7o0 0m6 0o0")
	outs(t, l, 0, 100, 103, 107)
	outs(t, l, 1, 101)
	outs(t, l, 7, 105)
	outs(t, l, 2)
}

// Of no other kind a Value counts as put out, nor any other number of an event.
func TestOutsOfKinds(t *testing.T) { // 11.1
	for kind := -1; kind <= 15; kind++ {
		for _, ok := range []bool{false, true} {
			for _, v := range []uint32{0, 6, math.MaxUint32} {
				l := []api.Event{{Kind: kind, Who: 2, Pc: 6, Addr: 6, Value: v, Old: 8, K: 6, Ok: ok}}
				if kind == 6 {
					outs(t, l, 2, v)
				} else {
					outs(t, l, 2)
				}
				outs(t, l, 6)
			}
		}
	}
}

func TestValuesByHand(t *testing.T) { // 11.1
	l := befell(t, "0s5 0f5 1w5 1c5 0l5 1w6 7f5 8w5 0k5 0a5 -1f5")
	values(t, l, 5, 101, 102, 106, 107, 110)
	values(t, l, 6, 105)
	values(t, l, 4)
	values(t, l, -1)
}

// What is flushed counts, and what is swapped, if it was; nothing else.
func TestValuesOfKinds(t *testing.T) { // 11.1
	for kind := -1; kind <= 15; kind++ {
		for _, ok := range []bool{false, true} {
			for _, v := range []uint32{0, 5, math.MaxUint32} {
				l := []api.Event{{Kind: kind, Who: 4, Pc: 4, Addr: 5, Value: v, Old: 8, K: 4, Ok: ok}}
				if kind == 3 || kind == 4 && ok {
					values(t, l, 5, v)
				} else {
					values(t, l, 5)
				}
				values(t, l, 4)
			}
		}
	}
}

// An address is a number as any other one: those that no memory has, too.
func TestValuesOfAnyAddress(t *testing.T) { // 11.1
	addrs := append([]int{0, 1, 1023, 1024}, strangers[:3]...)
	addrs = append(addrs, 1<<32, 1<<32+1, -1<<32, math.MaxInt32, math.MinInt32, math.MaxInt, math.MinInt)
	var l []api.Event
	for i, addr := range addrs {
		l = append(l, api.Event{Kind: api.EvFlush, Addr: addr, Value: uint32(i)})
	}
	for i, addr := range addrs {
		values(t, l, addr, uint32(i))
	}
	values(t, l, 2)
}

// What is handed in stays as it was, its spare room included.
func TestHandedIn(t *testing.T) { // rule 4
	all := befell(t, "0m4 0l5 1m2 0o3 0f5 0m5 1w5 1m3 0o9 1m8 1l2 0m0 0o1")
	kept := slices.Clone(all)
	l := all[:8]
	for range Of(l, 0) {
	}
	Outs(l, 0)
	Values(l, 5)
	Calls(l)
	if !slices.Equal(all, kept) {
		t.Errorf("the list is %+v now; was %+v", all, kept)
	}
}

// What is handed out is new memory: whatever is done with it changes nothing else, spare room included.
func TestHandedOut(t *testing.T) { // rule 4
	l := befell(t, "0m4 0l5 0l5 0l5 1m2 0o3 0f5 1l5 1l5 1l5 1l5 0m5 1w5 1m3 0m4 0l1 0o9 0o9 1o1 1o1")
	kept := slices.Clone(l)
	for i := range told(l) {
		got := Calls(l)
		fill(got[i].Inner, 99)
		for k, want := range told(l) {
			if k != i && !same(got[k], want) {
				t.Errorf("with the call %d written over, the call %d is %+v; was %+v", i, k, got[k], want)
			}
		}
	}
	fill(Calls(l), Call{Site: 99})
	fill(Outs(l, 0), 99)
	fill(Values(l, 5), 99)
	if !slices.Equal(l, kept) {
		t.Errorf("the list is %+v now; was %+v", l, kept)
	}
	agrees(t, l, 0, 5)
	agrees(t, l, 1, 5)
}
