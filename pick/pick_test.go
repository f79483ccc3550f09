package pick

import (
	"math"
	"slices"
	"testing"

	"deadlatch/api"
)

func TestOf(t *testing.T) { // 7.1, and the document's example
	for b, want := range map[byte]api.Pick{0: step(0), 1: step(1), 7: step(7), 8: flush(0), 15: flush(7), 16: rouse(0), 17: rouse(1), 23: rouse(7), 24: step(0), 31: step(7), 32: flush(0), 47: rouse(7), 48: step(0), 239: rouse(7), 240: step(0), 247: step(7), 248: flush(0), 255: flush(7)} {
		if x := Of(b); x != want {
			t.Errorf("Of(%d) = %v; want %v", b, x, want)
		}
	}
}

func TestAllBytesThereAndBack(t *testing.T) { // 7.1
	least := map[api.Pick]byte{}
	kind, who := 0, 0
	for b := range 256 {
		x := Of(byte(b))
		if want := (api.Pick{Kind: kind, Who: who}); x != want {
			t.Errorf("Of(%d) = %v; want %v", b, x, want)
		}
		if _, there := least[x]; !there {
			least[x] = byte(b)
		}
		if who++; who == 8 {
			kind, who = (kind+1)%3, 0
		}
	}
	if len(least) != 24 {
		t.Errorf("bytes have %d picks", len(least))
	}
	for x, want := range least {
		if b, ok := Byte(x); b != want || !ok {
			t.Errorf("Byte(%v) = %d, %v; want %d, true", x, b, ok, want)
		}
	}
	for b := range 256 {
		if back, ok := Byte(Of(byte(b))); int(back) != b%24 || !ok {
			t.Errorf("Byte(Of(%d)) = %d, %v", b, back, ok)
		}
	}
}

func TestByteOfNone(t *testing.T) { // 7.1
	for _, x := range noPicks {
		if b, ok := Byte(x); b != 0 || ok {
			t.Errorf("Byte(%v) = %d, %v", x, b, ok)
		}
	}
	for kind := -40; kind <= 40; kind++ {
		for who := -40; who <= 40; who++ {
			x := api.Pick{Kind: kind, Who: who}
			is := kind >= 0 && kind <= 2 && who >= 0 && who <= 7
			b, ok := Byte(x)
			if ok != is || ok && Of(b) != x || !ok && b != 0 {
				t.Errorf("Byte(%v) = %d, %v", x, b, ok)
			}
		}
	}
}

func TestRead(t *testing.T) { // 7.1
	for _, l := range [][]byte{nil, {}} {
		if picks := Read(l); len(picks) != 0 {
			t.Errorf("Read(%v) = %v", l, picks)
		}
	}
	if l, want := Read([]byte{17, 0, 255, 0, 9}), []api.Pick{rouse(1), step(0), flush(7), step(0), flush(1)}; !slices.Equal(l, want) {
		t.Errorf("Read = %v; want %v", l, want)
	}
	var all []byte
	for n := range 600 {
		all = append(all, byte(n*7))
		l := Read(all)
		if len(l) != n+1 {
			t.Fatalf("Read of %d bytes: %d picks", n+1, len(l))
		}
		for i, b := range all {
			if l[i] != Of(b) {
				t.Fatalf("Read(%v)[%d] = %v", all, i, l[i])
			}
		}
	}
}

func TestReadIsNewMemory(t *testing.T) { // 7.1, and rule 4
	for n := range 20 {
		given := make([]byte, n, n+5)
		for i := range given[:cap(given)] {
			given[:cap(given)][i] = byte(i * 11)
		}
		kept := slices.Clone(given[:cap(given)])
		first, second := Read(given), Read(given)
		first = first[:cap(first)]
		for i := range first {
			first[i] = api.Pick{Kind: 9, Who: 9}
		}
		if !slices.Equal(second, Read(kept[:n])) {
			t.Errorf("two lists share memory: %v", second)
		}
		if !slices.Equal(given[:cap(given)], kept) {
			t.Errorf("Read changed its bytes: %v", given[:cap(given)])
		}
		clear(given)
		if !slices.Equal(second, Read(kept[:n])) {
			t.Errorf("a list that was handed out changed: %v", second)
		}
	}
}

func TestFairOfOtherThreads(t *testing.T) { // 7.2
	for _, threads := range others {
		for _, w := range append([]int{0, 4, 32, 36, 100, -1, -4, -32, math.MinInt}, great...) {
			fair(t, nil, threads, w, false)
			fair(t, round(8), threads, w, false)
		}
	}
}

func TestFairOfAnotherWindow(t *testing.T) { // 7.2
	for threads := 1; threads <= 8; threads++ {
		w := 4 * threads
		for _, less := range []int{w - 1, w - 2, 2 * threads, 1, 0, -1, -w, math.MinInt, math.MinInt32, -1 << 32, -1<<32 + w} {
			for _, l := range [][]api.Pick{nil, round(threads), rounds(threads, 100)} {
				fair(t, l, threads, less, false)
			}
		}
		for _, more := range append([]int{w, w + 1, 2 * w, 101}, great...) {
			for _, l := range [][]api.Pick{nil, round(threads), rounds(threads, 100)} {
				fair(t, l, threads, more, true)
			}
		}
	}
}

// What is shorter than the window is fair, whatever it is; what is as long as it has to have all.
func TestFairOfShortScripts(t *testing.T) { // 7.2
	for threads := 1; threads <= 8; threads++ {
		for _, w := range []int{4 * threads, 4*threads + 1, 50} {
			for n := range w {
				fair(t, make([]api.Pick, n), threads, w, true)
				fair(t, slices.Repeat([]api.Pick{{Kind: -1, Who: 77}}, n), threads, w, true)
			}
			fair(t, make([]api.Pick, w), threads, w, false)
			fair(t, slices.Repeat([]api.Pick{{Kind: -1, Who: 77}}, w), threads, w, false)
			fair(t, rounds(threads, w), threads, w, true)
		}
		for _, w := range great {
			fair(t, make([]api.Pick, 100), threads, w, true)
		}
	}
}

func TestFairByHand(t *testing.T) { // 7.2
	s, f := step(0), flush(0)
	fair(t, []api.Pick{s, s, s, f, s}, 1, 4, true)
	fair(t, []api.Pick{s, s, s, s, f}, 1, 4, false)
	fair(t, []api.Pick{s, f, f, f, s}, 1, 4, true)
	fair(t, []api.Pick{s, f, f, f, f}, 1, 4, false)
	fair(t, []api.Pick{s, f, f, f, f}, 1, 5, true)
	fair(t, []api.Pick{s, f, rouse(0), step(1), flush(1), s, f}, 1, 4, false)
	fair(t, []api.Pick{s, f, rouse(0), step(1), s, f}, 1, 4, true)
}

// In just one window one pick is missing that has to be there: the first, the last, or one in between.
func TestFairWithOneMissing(t *testing.T) { // 7.2
	for threads := 1; threads <= 8; threads++ {
		for _, w := range []int{4 * threads, 4*threads + 1, 4*threads + 3} {
			for _, x := range round(threads) {
				for _, from := range []int{0, 1, w / 2, w, 2 * w} {
					l := missing(rounds(threads, from+3*w), x, from, w)
					fair(t, l, threads, w, false)
					fair(t, l[:from+w], threads, w, false)
					fair(t, l[from:], threads, w, false)
					fair(t, l[from:from+w], threads, w, false)
					fair(t, l[:from+w-1], threads, w, true)
					fair(t, l[from+1:], threads, w, true)
					fair(t, l, threads, w+1, true)
					if threads > 1 && x.Who == threads-1 {
						fair(t, l, threads-1, w, true)
					}
				}
			}
		}
	}
}

// missing answers a list like l, without x in the window at a place; it is picked just ahead of it and just behind it.
func missing(l []api.Pick, x api.Pick, from, w int) []api.Pick {
	for i := from; i < from+w; i++ {
		if l[i] == x {
			l[i] = rouse(x.Who)
		}
	}
	if from > 0 {
		l[from-1] = x
	}
	l[from+w] = x
	return l
}

// All scripts of one thread, of its picks and one other.
func TestFairOfAllShortScripts(t *testing.T) { // 7.2
	some := []api.Pick{step(0), flush(0), rouse(0)}
	n := 1
	for length := range 10 {
		for number := range n {
			l := make([]api.Pick, length)
			for i, left := 0, number; i < length; i, left = i+1, left/3 {
				l[i] = some[left%3]
			}
			for _, w := range []int{4, 5, 8, 9, 10} {
				fair(t, l, 1, w, toldFair(l, 1, w))
			}
		}
		n *= 3
	}
}

// One pick, or two or three of a kind in a row, are taken away from a script that just goes round.
func TestFairWithSomeChanged(t *testing.T) { // 7.2
	for threads := 1; threads <= 8; threads++ {
		w := 4 * threads
		l := rounds(threads, 3*w+1)
		for from := range l {
			for _, x := range []api.Pick{rouse(0), step(threads), flush(threads - 1), {Kind: 3}, {Who: -1}, {Kind: 1 << 32}} {
				m := slices.Clone(l)
				for i := from; i < min(from+6*threads, len(m)); i += 2 * threads {
					m[i] = x
					fair(t, m, threads, w, toldFair(m, threads, w))
				}
			}
		}
	}
}

func TestFairLeavesTheScript(t *testing.T) { // 7.2, and rule 4
	l := rounds(3, 60)
	kept := slices.Clone(l)
	Fair(l[:40], 3, 12)
	Fair(l[:40], 2, 12)
	if !slices.Equal(l, kept) {
		t.Errorf("Fair changed the script: %v", l)
	}
}
