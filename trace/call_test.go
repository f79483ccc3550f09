package trace

import (
	"math"
	"testing"

	"deadlatch/api"
)

func TestExample(t *testing.T) { // 11.2, and the document's example
	calls(t, befell(t, "0m4 0m5"), Call{Site: 2, Ended: 1, Result: 101})
}

func TestCallsByHand(t *testing.T) { // 11.2
	for _, c := range []struct {
		name, text string
		want       []Call
	}{
		{"what isn't marked", "0l5 0s5 0f5 0w5 0n0 0o0 0a5 0k5 0r0 0e0 0h0 0x0", nil},
		{"one with inner events", "3m4 3l1 3l2 3m5 3l3", []Call{{Site: 2, Who: 3, Began: 0, Ended: 3, Result: 103, Inner: []int{1, 2}}}},
		{"one that goes on", "3l0 3m4 3l1 3l2", []Call{{Site: 2, Who: 3, Began: 1, Ended: -1, Inner: []int{2, 3}}}},
		{"one that has just begun", "3m4", []Call{{Site: 2, Who: 3, Ended: -1}}},
		{"the site 0", "0m0 0l1 0m1", []Call{{Ended: 2, Result: 102, Inner: []int{1}}}},
		{"two, one behind the other", "0m4 0l1 0m5 0l2 0m6 0l3 0m7 0l4", []Call{{Site: 2, Ended: 2, Result: 102, Inner: []int{1}}, {Site: 3, Began: 4, Ended: 6, Result: 106, Inner: []int{5}}}},
		{"the same site twice", "0m4 0l1 0m5 0m4 0m5 0m4", []Call{{Site: 2, Ended: 2, Result: 102, Inner: []int{1}}, {Site: 2, Began: 3, Ended: 4, Result: 104}, {Site: 2, Began: 5, Ended: -1}}},
		{"one that another one breaks off", "0m4 0l1 0m6 0l2 0m7", []Call{{Site: 2, Ended: -1, Inner: []int{1}}, {Site: 3, Began: 2, Ended: 4, Result: 104, Inner: []int{3}}}},
		{"one that the same site breaks off", "0m4 0l1 0m4 0l2 0m5 0l3 0m5", []Call{{Site: 2, Ended: -1, Inner: []int{1}}, {Site: 2, Began: 2, Ended: 4, Result: 104, Inner: []int{3}}}},
		{"one that was broken off is ended by nothing", "0m4 0m6 0m5 0m7", []Call{{Site: 2, Ended: -1}, {Site: 3, Began: 1, Ended: 3, Result: 103}}},
		{"odd ones of other sites within", "0m4 0l1 0m7 0l2 0m3 0m1 0m9 0m5 0m5", []Call{{Site: 2, Ended: 7, Result: 107, Inner: []int{1, 3}}}},
		{"an odd one of another site, and nothing behind", "0m4 0m7 0l1", []Call{{Site: 2, Ended: -1, Inner: []int{2}}}},
		{"odd ones that end nothing", "0m5 0l1 0m1 0m4 0m5 0m5 0l1 0m7", []Call{{Site: 2, Began: 3, Ended: 4, Result: 104}}},
		{"flushes within", "0m4 0f5 0l1 0f5 0m5 0f5", []Call{{Site: 2, Ended: 4, Result: 104, Inner: []int{2}}}},
		{"what others do within", "0m4 1l1 1f1 1o0 8l1 -1l1 0l2 1m5 0m5", []Call{{Site: 2, Ended: 8, Result: 108, Inner: []int{6}}}},
		{"two threads, one within the other", "0m4 0l1 1m6 1l2 0l3 1m7 1l4 0l5 0m5", []Call{
			{Site: 2, Ended: 8, Result: 108, Inner: []int{1, 4, 7}},
			{Site: 3, Who: 1, Began: 2, Ended: 5, Result: 105, Inner: []int{3}}}},
		{"two threads at the same site", "1m4 0m4 1l1 0l1 0m5 1m5", []Call{
			{Site: 2, Who: 1, Ended: 5, Result: 105, Inner: []int{2}},
			{Site: 2, Began: 1, Ended: 4, Result: 104, Inner: []int{3}}}},
		{"what another thread marks neither ends nor breaks off", "0m4 1m5 1m6 1m8 0l1 0m5", []Call{
			{Site: 2, Ended: 5, Result: 105, Inner: []int{4}},
			{Site: 3, Who: 1, Began: 2, Ended: -1},
			{Site: 4, Who: 1, Began: 3, Ended: -1}}},
		{"who faults, or halts, or is roused, within", "0m4 0r0 0x0 1m4 1e0 1h0", []Call{{Site: 2, Ended: -1, Inner: []int{1, 2}}, {Site: 2, Who: 1, Began: 3, Ended: -1, Inner: []int{4, 5}}}},
	} {
		t.Run(c.name, func(t *testing.T) { calls(t, befell(t, c.text), c.want...) })
	}
}

// Its result is the Value of the mark that ends it, whatever else the marks tell, and none, if it goes on.
func TestResults(t *testing.T) { // 11.2
	for _, v := range []uint32{0, 1, 5, math.MaxUint32} {
		for _, ok := range []bool{false, true} {
			begin := api.Event{Kind: api.EvMark, Who: 1, Pc: 3, Addr: 9, Value: v + 7, Old: 8, K: 4, Ok: ok}
			end := api.Event{Kind: api.EvMark, Who: 1, Pc: 5, Addr: 8, Value: v, Old: v + 1, K: 5, Ok: !ok}
			other := api.Event{Kind: api.EvMark, Who: 1, Value: v + 2, K: 7}
			calls(t, []api.Event{begin, end}, Call{Site: 2, Who: 1, Ended: 1, Result: v})
			calls(t, []api.Event{begin, other, end, other}, Call{Site: 2, Who: 1, Ended: 2, Result: v})
			calls(t, []api.Event{begin, other}, Call{Site: 2, Who: 1, Ended: -1})
			calls(t, []api.Event{end, begin}, Call{Site: 2, Who: 1, Began: 1, Ended: -1})
		}
	}
}

// A mark's K may be as great as a word is, and there is no end but by the same site's.
func TestSitesAtTheLimits(t *testing.T) { // 11.2
	mark := func(k uint32) api.Event { return api.Event{Kind: api.EvMark, Value: 3, K: k} }
	for _, k := range []uint32{0, 2, 4, 254, 256, 65534, 65536, 1<<31 - 2, 1 << 31, math.MaxUint32 - 3, math.MaxUint32 - 1} {
		site := int(k / 2)
		calls(t, []api.Event{mark(k), mark(k + 1)}, Call{Site: site, Ended: 1, Result: 3})
		calls(t, []api.Event{mark(k), mark(k - 1), mark(k + 3), mark(k + 1)}, Call{Site: site, Ended: 3, Result: 3})
		calls(t, []api.Event{mark(k + 1), mark(k - 1)})
	}
	calls(t, []api.Event{mark(math.MaxUint32 - 1), mark(1)}, Call{Site: math.MaxInt32, Ended: -1})
	calls(t, []api.Event{mark(0), mark(math.MaxUint32), mark(1<<31 + 1)}, Call{Ended: -1})
}

// Of all kinds an event within a call counts, but of marks and flushes.
func TestInnerOfKinds(t *testing.T) { // 11.2
	for _, kind := range []int{-1, 0, 1, 2, 3, 4, 5, 6, 7, 8, 9, 10, 11, 12, 13, 14, 99, math.MinInt, math.MaxInt} {
		for _, ok := range []bool{false, true} {
			l := []api.Event{{Kind: 7, Who: 6, K: 2}, {Kind: kind, Who: 6, K: 5, Ok: ok}, {Kind: 7, Who: 6, K: 3, Value: 1}}
			want := Call{Site: 1, Who: 6, Ended: 2, Result: 1}
			if kind != 3 && kind != 7 {
				want.Inner = []int{1}
			}
			calls(t, l, want)
		}
	}
}

// There are calls of the threads 0 to 7, and what others mark is nobody's.
func TestCallsOfThreads(t *testing.T) { // 11.2
	var l []api.Event
	var want []Call
	for who := range 8 {
		l = append(l, api.Event{Kind: api.EvMark, Who: 7 - who, K: 6})
		want = append(want, Call{Site: 3, Who: 7 - who, Began: who, Ended: -1})
	}
	calls(t, l, want...)
	for _, who := range strangers {
		l = append(l, api.Event{Kind: api.EvMark, Who: who, K: 6}, api.Event{Kind: api.EvLoad, Who: who}, api.Event{Kind: api.EvMark, Who: who, K: 7})
	}
	calls(t, l, want...)
	for who := range 8 {
		want[7-who].Ended, want[7-who].Result = len(l), uint32(who)
		l = append(l, api.Event{Kind: api.EvMark, Who: who, K: 7, Value: uint32(who)})
	}
	calls(t, l, want...)
}

// Numbers that only look like a mark's kind when they are cut short are of no mark.
func TestMarksAlone(t *testing.T) { // 11.2
	for _, kind := range []int{-7, 0, 6, 8, 7 + 16, 7 + 256, 7 + 1<<32, 7 - 1<<32, math.MaxInt} {
		calls(t, []api.Event{{Kind: kind, K: 4}, {Kind: kind, K: 5}})
	}
}

// A long list of events: each thread's calls, all told.
func TestManyCalls(t *testing.T) { // 11.2
	var l []api.Event
	var want []Call
	for n := range 10000 {
		from := len(l)
		for who := range 8 {
			l = append(l, api.Event{Kind: api.EvMark, Who: who, K: uint32(2 * n)})
		}
		for who := range 8 {
			l = append(l, api.Event{Kind: api.EvLoad, Who: who})
		}
		for who := range 8 {
			l = append(l, api.Event{Kind: api.EvMark, Who: who, K: uint32(2*n + 1), Value: uint32(n)})
			want = append(want, Call{Site: n, Who: who, Began: from + who, Ended: from + 16 + who, Result: uint32(n), Inner: []int{from + 8 + who}})
		}
	}
	calls(t, l, want...)
}
