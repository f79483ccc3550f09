package race

import (
	"slices"
	"testing"
)

// lists hands out all lists of so many acts of a few.
func lists(few []Act, size int, each func([]Act)) {
	l := make([]Act, size)
	var fill func(int)
	fill = func(n int) {
		if n == size {
			each(l)
			return
		}
		for _, x := range few {
			l[n] = x
			fill(n + 1)
		}
	}
	fill(0)
}

// some answers all acts of so many kinds, threads and words.
func some(kinds []int, threads, words int) []Act {
	l := []Act{}
	for _, kind := range kinds {
		for who := range threads {
			for at := range words {
				l = append(l, Act{kind, who, at})
			}
		}
	}
	return l
}

func allAgree(t *testing.T, few []Act, size int) {
	t.Helper()
	lists(few, size, func(l []Act) {
		agrees(t, l)
		if t.Failed() {
			t.FailNow()
		}
	})
}

func TestAllOfTwoThreads(t *testing.T) { // 13.1, 13.2
	for size := range 6 {
		allAgree(t, some([]int{Read, Write, Give, Take}, 2, 1), size)
	}
}

func TestAllOfThreeThreads(t *testing.T) { // 13.1, 13.2
	allAgree(t, some([]int{Write, Give, Take}, 3, 1), 5)
	allAgree(t, append(some([]int{Give, Take}, 3, 1), Act{Write, 0, 0}, Act{Read, 2, 0}), 5)
}

func TestAllOfTwoWordsAndPlaces(t *testing.T) { // 13.1, 13.2
	allAgree(t, some([]int{Read, Write, Give, Take}, 2, 2), 4)
}

func TestAllWithWhatIsNoAct(t *testing.T) { // 13.1, 13.2
	few := []Act{{Write, 0, 0}, {Read, 1, 0}, {Give, 0, 0}, {Take, 1, 0}, {0, 0, 0}, {5, 1, 0}, {Give, 8, 0}, {Write, -1, 0}}
	allAgree(t, few, 5)
}

// step answers the number that comes behind another one, in an order that is as good as none.
func step(n uint32) uint32 { return n*1664525 + 1013904223 }

// Lists in which much befalls, of all threads.
func TestLongerLists(t *testing.T) { // 13.1, 13.2
	n := uint32(13)
	for round := range 600 {
		l := make([]Act, 5+round%40)
		for i := range l {
			n = step(n)
			kind := []int{Read, Write, Give, Give, Take, Take, Read, 5}[n>>13&7]
			l[i] = Act{kind, int(n >> 16 & 7), int(n>>20&15) % (1 + round%5)}
		}
		agrees(t, l)
	}
}

func TestKnownFurtherOn(t *testing.T) { // 13.3
	lists(some([]int{Read, Give, Take}, 2, 2), 4, func(l []Act) {
		for i := range l {
			for j := range l {
				for k := range l {
					if Ordered(l, i, j) && Ordered(l, j, k) && !Ordered(l, i, k) {
						t.Fatalf("%v: %d is known at %d, that at %d", l, i, j, k)
					}
				}
			}
		}
	})
}

// What is told of two acts hangs on what stands between them alone, and on none of what comes behind.
func TestWhatIsBehindDoesNotMatter(t *testing.T) { // 13.1, 13.2
	lists(some([]int{Write, Give, Take}, 2, 1), 5, func(l []Act) {
		for i := range l {
			for k := i + 1; k < len(l); k++ {
				if Ordered(l, i, k) != Ordered(l[i:k+1], 0, k-i) {
					t.Fatalf("%v: %d and %d", l, i, k)
				}
			}
		}
		if i, k, ok := Find(l); ok {
			finds(t, append(slices.Clone(l), Act{Write, 7, 0}, Act{Write, 6, 0}), i, k, true)
			finds(t, l[:k], 0, 0, false)
		}
	})
}

// guarded makes acts on the word 0 of bytes, all between a Take and the next Give of their thread at the place 9, where one takes only behind the Give of the one ahead; what else the bytes tell is done at other words and places.
func guarded(bytes []byte) []Act {
	l := []Act{}
	holder := -1
	for _, b := range bytes {
		who, what := int(b&7), b>>3&7
		switch {
		case what < 2 && holder < 0:
			holder = who
			l = append(l, Act{Take, who, 9})
		case what == 2 && holder >= 0:
			l = append(l, Act{Give, holder, 9})
			holder = -1
		case what < 5 && holder >= 0:
			l = append(l, Act{Read + int(b>>6&1), holder, 0})
		case what == 5:
			l = append(l, Act{Give, who, 8})
		case what == 6:
			l = append(l, Act{Take, who, 8})
		case what == 7:
			l = append(l, Act{Read, who, 1})
		}
	}
	return l
}

func TestNoRaceBetweenTakeAndGive(t *testing.T) { // 13.3
	n := uint32(7)
	touched := 0
	for range 300 {
		bytes := make([]byte, 200)
		for i := range bytes {
			n = step(n)
			bytes[i] = byte(n >> 16)
		}
		l := guarded(bytes)
		finds(t, l, 0, 0, false)
		for _, x := range l {
			if x.Kind == Write {
				touched++
			}
		}
	}
	if touched < 1000 {
		t.Errorf("the word is written %d times", touched)
	}
}

// Without one of the Gives there is a race.
func TestARaceWithoutAGive(t *testing.T) { // 13.3
	l := []Act{}
	for who := range 8 {
		l = append(l, Act{Take, who, 9}, Act{Write, who, 0}, Act{Give, who, 9})
	}
	finds(t, l, 0, 0, false)
	for who := range 7 {
		less := slices.Delete(slices.Clone(l), 3*who+2, 3*who+3)
		finds(t, less, 3*who+1, 3*who+3, true)
	}
}

// FuzzRace makes a list of bytes, two of them for an act, and holds what is told of it against the document's words.
func FuzzRace(f *testing.F) { // 13.1, 13.2, 13.3
	f.Add([]byte("\x11\x01\x22\x01"))
	f.Add([]byte("\x20\x01\x30\x01\x41\x01\x11\x01\x00\x00\x28\x01"))
	f.Fuzz(func(t *testing.T, b []byte) {
		b = b[:min(len(b), 80)]
		l := []Act{}
		for n := 0; n+1 < len(b); n += 2 {
			l = append(l, Act{int(b[n]>>4&7) - 1, int(b[n]&15) - 1, int(int8(b[n+1]))})
		}
		agrees(t, l)
		finds(t, guarded(b), 0, 0, false)
	})
}
