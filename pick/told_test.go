package pick

import (
	"math"
	"slices"
	"testing"

	"deadlatch/api"
)

// others are numbers of threads that there never are.
var others = []int{0, -1, 9, 10, 16, -8, 256, 257, 264, 1 << 32, 1<<32 + 1, 1<<32 + 8, -1<<32 + 1, math.MaxInt32, math.MinInt32, 1 << 62, 1<<62 + 1, math.MaxInt, math.MinInt, math.MinInt + 1}

// great are windows that are far beyond any script.
var great = []int{math.MaxInt, math.MaxInt - 1, math.MaxInt - 15, math.MaxInt - 16, math.MaxInt - api.MaxPicks, math.MaxInt32, math.MaxInt32 + 1, 1 << 32, 1<<32 + 31, 1 << 62}

// noPicks are picks that no byte has.
var noPicks = []api.Pick{{Kind: 3}, {Kind: 3, Who: 7}, {Kind: 4, Who: 1}, {Kind: 32}, {Kind: -1}, {Kind: -1, Who: 7}, {Kind: -3}, {Kind: 256}, {Kind: 1 << 32, Who: 1}, {Kind: math.MaxInt}, {Kind: math.MinInt},
	{Who: -1}, {Kind: 1, Who: -1}, {Kind: 2, Who: -8}, {Who: 8}, {Kind: 1, Who: 8}, {Kind: 2, Who: 9}, {Who: 256}, {Who: 1 << 32}, {Kind: 1, Who: 1<<32 + 1}, {Who: math.MaxInt}, {Kind: 1, Who: math.MinInt}, {Kind: -1, Who: 8}, {Kind: 1, Who: -7}}

func step(who int) api.Pick  { return api.Pick{Kind: api.Step, Who: who} }
func flush(who int) api.Pick { return api.Pick{Kind: api.Flush, Who: who} }
func rouse(who int) api.Pick { return api.Pick{Kind: api.Rouse, Who: who} }

// toldFair holds each window, one by one, against what has to be in it.
func toldFair(l []api.Pick, threads, w int) bool {
	if threads < 1 || threads > 8 || w < 4*threads {
		return false
	}
	for from := 0; len(l)-from >= w; from++ {
		in := map[api.Pick]bool{}
		for _, x := range l[from : from+w] {
			in[x] = true
		}
		for who := range threads {
			if !in[step(who)] || !in[flush(who)] {
				return false
			}
		}
	}
	return true
}

// toldEven goes by the words: of each pick that is due it has, in a map, by when. A window and a place are never too great for 64 bits without a sign.
func toldEven(wishes []api.Pick, threads, w, n int) []api.Pick {
	due := map[api.Pick]uint64{}
	for who := range threads {
		due[step(who)] = uint64(w - 2*who)
		due[flush(who)] = uint64(w - 2*who - 1)
	}
	var l []api.Pick
	next := 0
	for len(l) < n {
		i := uint64(len(l))
		first, by := api.Pick{}, uint64(math.MaxUint64)
		for x, d := range due {
			if d < by {
				first, by = x, d
			}
		}
		if by > i+2*uint64(threads) && len(wishes) > 0 {
			first = wishes[next]
			if next++; next == len(wishes) {
				next = 0
			}
		}
		l = append(l, first)
		if _, is := due[first]; is {
			due[first] = i + 1 + uint64(w)
		}
	}
	return l
}

// even answers an even script, which has to be fair, and as it is told.
func even(t *testing.T, wishes []api.Pick, threads, w, n int) []api.Pick {
	t.Helper()
	l, e := Even(wishes, threads, w, n)
	if e != api.OK || len(l) != n {
		t.Fatalf("Even(%v, %d, %d, %d): %d picks, %d", wishes, threads, w, n, len(l), e)
	}
	if want := toldEven(wishes, threads, w, n); !slices.Equal(l, want) {
		t.Errorf("Even(%v, %d, %d, %d) = %v; want %v", wishes, threads, w, n, l, want)
	}
	if !Fair(l, threads, w) {
		t.Errorf("Even(%v, %d, %d, %d) isn't fair: %v", wishes, threads, w, n, l)
	}
	return l
}

// fair holds Fair against what it has to be.
func fair(t *testing.T, l []api.Pick, threads, w int, want bool) {
	t.Helper()
	if ok := Fair(l, threads, w); ok != want {
		t.Errorf("Fair(%v, %d, %d) = %v", l, threads, w, ok)
	}
}

// round answers each thread's step and flush, once.
func round(threads int) []api.Pick {
	var l []api.Pick
	for who := range threads {
		l = append(l, step(who), flush(who))
	}
	return l
}

// rounds answers n picks, of rounds.
func rounds(threads, n int) []api.Pick {
	var l []api.Pick
	for len(l) < n {
		l = append(l, round(threads)...)
	}
	return l[:n]
}
