package race

import (
	"math"
	"strconv"
	"strings"
	"testing"
)

// strangers are numbers of no thread.
var strangers = []int{-1, -2, -8, 8, 9, 15, 16, 256, 1 << 32, 1<<32 + 1, -1 << 32, math.MaxInt32, math.MinInt32, math.MaxInt, math.MinInt}

// odd are numbers of no kind.
var odd = []int{0, -1, -3, 5, 6, 9, 257, 258, 259, 260, 1 << 32, 1<<32 + 1, 1<<32 + 2, 1<<32 + 3, 1<<32 + 4, -1<<32 + 1, -1<<32 + 2, -1<<32 + 3, -1<<32 + 4, math.MaxInt32, math.MinInt32, math.MaxInt, math.MinInt}

// wide are words, and places: any number may be one.
var wide = []int{0, 1, -1, 16, 1024, 1 << 31, 1 << 32, 1<<32 + 1, -1 << 32, math.MaxInt32, math.MinInt32, math.MaxInt, math.MinInt}

// acts reads acts from a text: each is the thread, what it does (r, w, g, t), and which word or place; "-" is no act.
func acts(text string) []Act {
	l := []Act{}
	for _, s := range strings.Fields(text) {
		if s == "-" {
			l = append(l, Act{})
			continue
		}
		at, err := strconv.Atoi(s[2:])
		if err != nil {
			panic(err)
		}
		l = append(l, Act{strings.Index(" rwgt", s[1:2]), int(s[0] - '0'), at})
	}
	return l
}

// counts tells, by the document's words, whether there is such an act.
func counts(x Act) bool {
	kind, who := false, false
	for _, n := range []int{1, 2, 3, 4} {
		kind = kind || x.Kind == n
	}
	for n := range 8 {
		who = who || x.Who == n
	}
	return kind && who
}

// knows answers, by the document's words, which act of a list is known at which one: [earlier][later].
func knows(l []Act) [][]bool {
	known := make([][]bool, len(l))
	for i := range known {
		known[i] = make([]bool, len(l))
	}
	for far := 1; far < len(l); far++ {
		for i := 0; i+far < len(l); i++ {
			k := i + far
			x, y := l[i], l[k]
			if !counts(x) || !counts(y) {
				continue
			}
			is := x.Who == y.Who || x.Kind == Give && y.Kind == Take && x.At == y.At
			for j := i + 1; j < k && !is; j++ {
				is = known[i][j] && known[j][k]
			}
			known[i][k] = is
		}
	}
	return known
}

// opposed tells, by the document's words, whether two acts are against each other.
func opposed(x, y Act) bool {
	if !counts(x) || !counts(y) || x.At != y.At {
		return false
	}
	switch {
	case x.Kind == Write:
		return y.Kind == Write || y.Kind == Read
	case x.Kind == Read:
		return y.Kind == Write
	}
	return false
}

// races answers, by the document's words, the race that Find is to tell.
func races(l []Act, known [][]bool) (int, int, bool) {
	for k := range l {
		for i := range k {
			if opposed(l[i], l[k]) && !known[i][k] {
				return i, k, true
			}
		}
	}
	return 0, 0, false
}

func orders(t *testing.T, l []Act, i, k int, want bool) {
	t.Helper()
	if got := Ordered(l, i, k); got != want {
		t.Errorf("Ordered(%v, %d, %d) = %v", l, i, k, got)
	}
}

func finds(t *testing.T, l []Act, i, k int, want bool) {
	t.Helper()
	if a, b, got := Find(l); a != i || b != k || got != want {
		t.Errorf("Find(%v) = %d, %d, %v; want %d, %d, %v", l, a, b, got, i, k, want)
	}
}

// agrees holds all that is told of a list, of places beside it too, against the document's words.
func agrees(t *testing.T, l []Act) {
	t.Helper()
	known := knows(l)
	for i := -1; i <= len(l); i++ {
		for k := -1; k <= len(l); k++ {
			within := 0 <= i && i < len(l) && 0 <= k && k < len(l)
			orders(t, l, i, k, within && known[i][k])
		}
	}
	i, k, ok := races(l, known)
	finds(t, l, i, k, ok)
}
