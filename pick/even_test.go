package pick

import (
	"math"
	"slices"
	"testing"

	"deadlatch/api"
)

func TestEvenRefuses(t *testing.T) { // 7.2
	refused := func(wishes []api.Pick, threads, w, n int) {
		t.Helper()
		if l, e := Even(wishes, threads, w, n); len(l) != 0 || e != api.ErrArg {
			t.Errorf("Even(%v, %d, %d, %d): %d picks, %d", wishes, threads, w, n, len(l), e)
		}
	}
	for _, wishes := range [][]api.Pick{nil, {step(0)}, {rouse(9)}} {
		for _, threads := range others {
			for _, w := range append([]int{0, 4, 32, 36, 80, -4, -36, math.MinInt}, great...) {
				refused(wishes, threads, w, 0)
				refused(wishes, threads, w, 5)
			}
		}
		for threads := 1; threads <= 8; threads++ {
			for _, w := range []int{4*threads - 1, 2 * threads, 1, 0, -1, -4 * threads, math.MinInt32, -1<<32 + 32, math.MinInt, math.MinInt + 100} {
				refused(wishes, threads, w, 0)
				refused(wishes, threads, w, 1)
			}
			for _, n := range []int{-1, -2, 100001, 100002, 1 << 32, 1<<32 + 1, -1<<32 + 1, math.MaxInt32, math.MinInt32, math.MaxInt, math.MinInt} {
				refused(wishes, threads, 4*threads, n)
				refused(wishes, threads, 400, n)
				refused(wishes, threads, math.MaxInt, n)
			}
		}
	}
}

func TestEvenByHand(t *testing.T) { // 7.2
	for _, c := range []struct {
		wishes     []api.Pick
		threads, w int
		want       []api.Pick
	}{
		// Without wishes, who is due first: the last thread's flush, its step, and so on.
		{nil, 1, 4, []api.Pick{flush(0), step(0), flush(0), step(0), flush(0)}},
		{nil, 2, 8, []api.Pick{flush(1), step(1), flush(0), step(0), flush(1), step(1), flush(0), step(0), flush(1)}},
		{nil, 2, 100, []api.Pick{flush(1), step(1), flush(0), step(0), flush(1), step(1)}},
		// The flush is due by 3, the step by 4: at 0 nothing is due by 2, at 1 the flush is, at 2 the step is; then by 6 and by 7.
		{[]api.Pick{rouse(5)}, 1, 4, []api.Pick{rouse(5), flush(0), step(0), rouse(5), flush(0), step(0), rouse(5)}},
		// A wish puts off what it is: the flush is due by 5, by 6, ..; the step by 4, and by 7.
		{[]api.Pick{flush(0)}, 1, 4, []api.Pick{flush(0), flush(0), step(0), flush(0), flush(0), step(0), flush(0)}},
		{[]api.Pick{step(0)}, 1, 4, []api.Pick{step(0), flush(0), step(0), step(0), flush(0), step(0)}},
		// Wishes go on where they were left.
		{[]api.Pick{rouse(0), rouse(1), rouse(2)}, 1, 5, []api.Pick{rouse(0), rouse(1), flush(0), step(0), rouse(2), rouse(0), flush(0), step(0), rouse(1), rouse(2)}},
		// What isn't a pick, or another thread's, is picked all the same, and puts off nothing.
		{[]api.Pick{step(1), {Kind: 7, Who: -3}}, 1, 5, []api.Pick{step(1), {Kind: 7, Who: -3}, flush(0), step(0), step(1), {Kind: 7, Who: -3}, flush(0), step(0), step(1)}},
		// Of two threads: steps are due by 8 and 6, flushes by 7 and 5; a wish is granted at 0, at 4 and at 6.
		{[]api.Pick{step(0), flush(1)}, 2, 8, []api.Pick{step(0), flush(1), step(1), flush(0), flush(1), step(0), step(0), step(1), flush(0), flush(1)}},
	} {
		if l := even(t, c.wishes, c.threads, c.w, len(c.want)); !slices.Equal(l, c.want) {
			t.Errorf("Even(%v, %d, %d, %d) = %v; want %v", c.wishes, c.threads, c.w, len(c.want), l, c.want)
		}
	}
}

// wishLists are wishes of all sorts: none, what is due, what never is, the same one over and over.
func wishLists() [][]api.Pick {
	lists := [][]api.Pick{nil, {}, noPicks, round(8), round(1), slices.Repeat(round(3), 7), slices.Repeat([]api.Pick{rouse(0), rouse(7), rouse(3)}, 9), {rouse(0), {Kind: 3}, step(0)}, {step(0), step(7), flush(7), flush(0), rouse(1)}}
	for b := range byte(24) {
		lists = append(lists, []api.Pick{Of(b)}, slices.Repeat([]api.Pick{Of(b)}, 50), []api.Pick{Of(b), Of(b * 5)})
	}
	for _, x := range noPicks {
		lists = append(lists, []api.Pick{x}, []api.Pick{x, step(0), x})
	}
	mixed := make([]api.Pick, 500)
	for i := range mixed {
		mixed[i] = Of(byte(i * i * 37 / 5))
	}
	return append(lists, mixed, Read([]byte("a script may be a text as well")))
}

func TestEvenIsAsToldAndFair(t *testing.T) { // 7.2, 7.3
	for threads := 1; threads <= 8; threads++ {
		for _, w := range []int{4 * threads, 4*threads + 1, 5*threads + 2, 100} {
			for _, wishes := range wishLists() {
				l := even(t, wishes, threads, w, 3*w+7)
				if !toldFair(l, threads, w) {
					t.Errorf("Even(%v, %d, %d, ..) isn't fair: %v", wishes, threads, w, l)
				}
			}
		}
	}
}

// The script of fewer picks is the beginning of the one of more.
func TestEvenOfFewer(t *testing.T) { // 7.2
	for _, wishes := range wishLists() {
		whole := even(t, wishes, 3, 13, 60)
		for _, n := range []int{0, 1, 2, 12, 13, 14, 59} {
			if l := even(t, wishes, 3, 13, n); !slices.Equal(l, whole[:n]) {
				t.Errorf("Even(%v, 3, 13, %d) = %v; want the beginning of %v", wishes, n, l, whole)
			}
		}
	}
}

func TestEvenOfTheMost(t *testing.T) { // 7.2, 7.3
	for _, threads := range []int{1, 8} {
		for _, wishes := range [][]api.Pick{nil, {rouse(2)}, round(5)} {
			for _, w := range []int{4 * threads, 1000, 99999, 100000, 100001, math.MaxInt} {
				even(t, wishes, threads, w, 100000)
			}
		}
	}
}

// With a window that no script is as long as, the wishes are all that is picked; without wishes, all take turns.
func TestEvenWithGreatWindows(t *testing.T) { // 7.2
	wishes := []api.Pick{rouse(1), step(0), flush(3), {Kind: 9}}
	for _, w := range great {
		for threads := 1; threads <= 8; threads++ {
			if l := even(t, wishes, threads, w, 200); !slices.Equal(l, slices.Repeat(wishes, 50)) {
				t.Errorf("Even(%v, %d, %d, 200) = %v", wishes, threads, w, l)
			}
			want := round(threads)
			slices.Reverse(want)
			if l := even(t, nil, threads, w, 200); !slices.Equal(l, slices.Repeat(want, 200)[:200]) {
				t.Errorf("Even(nil, %d, %d, 200) = %v", threads, w, l)
			}
		}
	}
}

// The window's edge: a wish is granted as long as nothing is due by i and twice the threads.
func TestEvenAtTheEdge(t *testing.T) { // 7.2
	for threads := 1; threads <= 8; threads++ {
		for w := 4 * threads; w < 4*threads+40; w++ {
			l := even(t, []api.Pick{rouse(0)}, threads, w, w)
			granted := slices.IndexFunc(l, func(x api.Pick) bool { return x != rouse(0) })
			if granted != w-4*threads+1 {
				t.Errorf("Even with the window %d: %d wishes are granted at first, of %d threads", w, granted, threads)
			}
			if x := l[granted]; x != flush(threads-1) {
				t.Errorf("Even with the window %d: what is due first is %v, of %d threads", w, x, threads)
			}
		}
	}
}

// All wishes of a few picks, of two threads: what is due, a Rouse, a stranger's.
func TestEvenOfAllFewWishes(t *testing.T) { // 7.2, 7.3
	some := []api.Pick{step(0), flush(0), step(1), flush(1), rouse(1), step(2), {Kind: 3}}
	n := 1
	for length := range 5 {
		for number := range n {
			wishes := make([]api.Pick, length)
			for i, left := 0, number; i < length; i, left = i+1, left/len(some) {
				wishes[i] = some[left%len(some)]
			}
			even(t, wishes, 2, 8+number%3, 40)
		}
		n *= len(some)
	}
}

func TestEvenIsNewMemory(t *testing.T) { // 7.2, and rule 4
	for _, w := range []int{8, 11, math.MaxInt} {
		room := rounds(3, 20)
		kept := slices.Clone(room)
		wishes := room[:9]
		first, second := even(t, wishes, 2, w, 9), even(t, wishes, 2, w, 9)
		want := slices.Clone(second)
		first = first[:cap(first)]
		for i := range first {
			first[i] = api.Pick{Kind: 9, Who: 9}
		}
		if !slices.Equal(room, kept) {
			t.Errorf("Even changed the wishes, or shares them: %v", room)
		}
		clear(room)
		if !slices.Equal(second, want) {
			t.Errorf("a script that was handed out changed: %v", second)
		}
	}
}

func FuzzEven(f *testing.F) { // 7.1, 7.2, 7.3
	f.Add([]byte{17, 0, 8}, 2, 9, 50)
	f.Add([]byte{}, 8, 32, 100)
	f.Add([]byte{255, 30}, 1, math.MaxInt, 3)
	f.Add([]byte{1, 2, 3}, 9, 0, -1)
	f.Fuzz(func(t *testing.T, b []byte, threads, w, n int) {
		wishes := Read(b)
		may := threads >= 1 && threads <= 8 && w >= 4*threads
		if ok := Fair(wishes, threads, w); len(b) < 2000 && ok != toldFair(wishes, threads, w) {
			t.Errorf("Fair(%v, %d, %d) = %v", wishes, threads, w, ok)
		}
		l, e := Even(wishes, threads, w, n)
		if !may || n < 0 || n > 100000 {
			if len(l) != 0 || e != api.ErrArg {
				t.Errorf("Even(%v, %d, %d, %d): %d picks, %d", wishes, threads, w, n, len(l), e)
			}
			return
		}
		if n < 3000 {
			even(t, wishes, threads, w, n)
		}
	})
}
