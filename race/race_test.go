package race

import (
	"math"
	"slices"
	"testing"
)

func TestExample(t *testing.T) { // 13.2, and the document's example
	finds(t, acts("0w5 1r5"), 0, 1, true)
	finds(t, acts("0w5 0g9 1t9 1r5"), 0, 0, false)
}

func TestNumbers(t *testing.T) { // the chapter's constants
	if Read != 1 || Write != 2 || Give != 3 || Take != 4 {
		t.Errorf("%d %d %d %d", Read, Write, Give, Take)
	}
}

func TestRightByHand(t *testing.T) { // 13.1
	for _, at := range wide {
		for kind := 1; kind <= 4; kind++ {
			for who := range 8 {
				if !Right(Act{kind, who, at}) {
					t.Errorf("there is an act %d %d %d", kind, who, at)
				}
			}
			for _, who := range strangers {
				if Right(Act{kind, who, at}) {
					t.Errorf("an act %d of the thread %d", kind, who)
				}
			}
		}
		for _, kind := range odd {
			for _, who := range append([]int{0, 1, 7}, strangers...) {
				if Right(Act{kind, who, at}) {
					t.Errorf("an act of the kind %d, of the thread %d", kind, who)
				}
			}
		}
	}
}

func TestOrderedByHand(t *testing.T) { // 13.1
	for _, c := range []struct {
		name, acts string
		i, k       int
		want       bool
	}{
		{"two of one thread", "0r1 0r2", 0, 1, true},
		{"two of the last thread", "7w1 7g2", 0, 1, true},
		{"two of one thread, with others between", "3r1 4r1 5w1 3r2", 0, 3, true},
		{"two of unlike threads", "0r1 1r1", 0, 1, false},
		{"given and taken", "0g4 1t4", 0, 1, true},
		{"taken ahead of what is given", "1t4 0g4", 0, 1, false},
		{"given at one place, taken at another", "0g4 1t5", 0, 1, false},
		{"both give", "0g4 1g4", 0, 1, false},
		{"both take", "0t4 1t4", 0, 1, false},
		{"taken, and read there", "0t4 1r4", 0, 1, false},
		{"a word that is written is not given", "0w4 1t4", 0, 1, false},
		{"what is given at a place is not read as a word", "0g4 1r4", 0, 1, false},
		{"what is written ahead of a Give", "0w1 0g4 1t4 1r1", 0, 3, true},
		{"the Give itself, behind the Take", "0w1 0g4 1t4 1r1", 1, 3, true},
		{"what is written, at the Take itself", "0w1 0g4 1t4 1r1", 0, 2, true},
		{"what is written behind a Give", "0g4 0w1 1t4 1r1", 1, 3, false},
		{"what is read ahead of a Take", "0w1 0g4 1r1 1t4", 0, 2, false},
		{"what another one reads behind a Take", "0w1 0g4 1t4 2r1", 0, 3, false},
		{"what the one who takes did", "1w1 0g4 1t4 0r1", 0, 3, false},
		{"what is taken is known to who takes, not to who gave", "1w1 0g4 1t4 0g4 1r1", 2, 3, false},
		{"over a third thread", "0w1 0g4 1t4 1g5 2t5 2r1", 0, 5, true},
		{"over a third thread, at one place", "0w1 0g4 1t4 1g4 2t4 2r1", 0, 5, true},
		{"over a third thread that gives too early", "0w1 1g5 0g4 1t4 2t5 2r1", 0, 5, false},
		{"over a third thread, and taken too early", "0w1 2t5 0g4 1t4 1g5 2r1", 0, 5, false},
		{"through all threads", "0w0 0g0 1t0 1g1 2t1 2g2 3t2 3g3 4t3 4g4 5t4 5g5 6t5 6g6 7t6 7w0", 0, 15, true},
		{"through all threads but for one link", "0w0 0g0 1t0 1g1 2t1 2g2 3t2 3g3 4t9 4g4 5t4 5g5 6t5 6g6 7t6 7w0", 0, 15, false},
		{"what was given first of two", "0g4 1g4 2t4", 0, 2, true},
		{"what was given last of two", "0g4 1g4 2t4", 1, 2, true},
		{"what was given stays when it is taken", "0g4 1t4 2t4", 0, 2, true},
		{"what was given stays when the giver gives again", "0w1 0g4 0w2 0g4 1t4", 0, 4, true},
		{"what is behind the last Give", "0g4 0w1 0g4 0w2 1t4 1r2", 3, 5, false},
		{"a thread takes what it gave", "0g4 0t4", 0, 1, true},
		{"at a word far below 0", "0g-9223372036854775808 1t-9223372036854775808", 0, 1, true},
		{"places that are alike in 32 bits", "0g1 1t4294967297", 0, 1, false},
		{"what is no act is known nowhere", "- 0r1", 0, 1, false},
		{"at what is no act nothing is known", "0r1 -", 0, 1, false},
		{"of two that are no acts", "- -", 0, 1, false},
		{"around what is no act", "0r1 - 0r1", 0, 2, true},
	} {
		t.Run(c.name, func(t *testing.T) { orders(t, acts(c.acts), c.i, c.k, c.want) })
	}
}

func TestOrderedOfNoPlaces(t *testing.T) { // 13.1
	l := acts("0w1 0g4 0t4 0r1")
	for _, n := range append([]int{4, 5, 8}, strangers...) {
		if 0 <= n && n < len(l) {
			continue
		}
		for k := range l {
			orders(t, l, n, k, false)
			orders(t, l, k, n, false)
		}
		orders(t, l, n, n, false)
		orders(t, nil, n, n, false)
		orders(t, nil, 0, n, false)
		orders(t, l[:0], n, 0, false)
	}
	for i := range l {
		for k := range l {
			orders(t, l, i, k, i < k)
		}
	}
	// What stands in the spare room is no act of the list.
	orders(t, l[:2], 0, 2, false)
}

func TestFindByHand(t *testing.T) { // 13.2
	for _, c := range []struct {
		name, acts string
		i, k       int
		want       bool
	}{
		{"none at all", "", 0, 0, false},
		{"one", "0w1", 0, 0, false},
		{"written, and read", "0w1 1r1", 0, 1, true},
		{"read, and written", "0r1 1w1", 0, 1, true},
		{"written twice", "0w1 1w1", 0, 1, true},
		{"read twice", "0r1 1r1", 0, 0, false},
		{"of one thread", "0w1 0r1 0w1", 0, 0, false},
		{"of unlike words", "0w1 1w2 2r3", 0, 0, false},
		{"words that are alike in 32 bits", "0w1 1w4294967297", 0, 0, false},
		{"words far below 0", "0w-9223372036854775808 1w-9223372036854775808", 0, 1, true},
		{"what is given at a place of the word's number", "0g1 1w1", 0, 0, false},
		{"what is taken at a place of the word's number", "0w1 1t1", 0, 0, false},
		{"given twice", "0g1 1g1 0t1", 0, 0, false},
		{"given at a place of another number", "0w1 0g4 1t5 1r1", 0, 3, true},
		{"known by a place of the word's number", "0w1 0g1 1t1 1w1", 0, 0, false},
		{"a read that is known", "0r1 0g4 1t4 1w1", 0, 0, false},
		{"a read that isn't known", "0w1 0g4 0r1 1t4 1w1", 2, 4, true},
		{"a read behind a known write", "0w1 0g4 0r1 1t4 1r1", 0, 0, false},
		{"the later act comes first", "0w1 0w2 1w2 1w1", 1, 2, true},
		{"the later act comes first, though its earlier one is late", "0w1 2w3 1r3 1r1", 1, 2, true},
		{"of its earlier ones the first", "0w1 0w1 0w1 1r1", 0, 3, true},
		{"of its earlier ones the first that isn't known", "0w1 0g4 0w1 0w1 1t4 1r1", 2, 5, true},
		{"of its earlier ones the first that is against it", "0r1 0w2 0r1 0w1 1r1", 3, 4, true},
		{"of its earlier ones the first, by whomever", "0r1 2r1 3r1 1w1", 0, 3, true},
		{"the first thread's is known, the second one's not", "0r1 2r1 0g4 1t4 1w1", 1, 4, true},
		{"the second thread's is known, the first one's not", "0r1 2r1 2g4 1t4 1w1", 0, 4, true},
		{"both are known", "0r1 2r1 0g4 2g4 1t4 1w1", 0, 0, false},
		{"read, and written, by one that isn't known: the read comes first", "2w1 2g4 2r1 2g5 2w1 1t5 1w1", 4, 6, true},
		{"a write that a known read is behind", "0w1 0g4 2t4 2r1 2g5 1t5 1w1", 0, 0, false},
		{"its own acts between", "0w1 0g4 1t4 1w1 0r1", 3, 4, true},
		{"given back", "0w1 0g4 1t4 1w1 1g4 0t4 0r1", 0, 0, false},
		{"of the last thread", "7w0 6r0", 0, 1, true},
		{"what is no act between", "- 0w1 - 1r1 -", 1, 3, true},
		{"nothing but what is no act", "- - -", 0, 0, false},
	} {
		t.Run(c.name, func(t *testing.T) { finds(t, acts(c.acts), c.i, c.k, c.want) })
	}
}

// What is no act counts for nothing: neither is it against one, nor does it give or take, nor is it one of its thread's.
func TestWhatIsNoAct(t *testing.T) { // 13.1, 13.2
	wrong := []Act{}
	for _, kind := range odd {
		wrong = append(wrong, Act{kind, 0, 1}, Act{kind, 1, 1}, Act{kind, 2, 4})
	}
	for _, who := range strangers {
		for kind := 1; kind <= 4; kind++ {
			wrong = append(wrong, Act{kind, who, 1}, Act{kind, who, 4})
		}
	}
	for _, x := range wrong {
		for _, text := range []string{"0w1 1r1", "0w1 0g4 1t4 1r1", "0w1 0g4 0w1 1t4 1r1", "0g4 1t4 1w1", "0r1 1r1"} {
			l := acts(text)
			for at := range len(l) + 1 {
				agrees(t, slices.Insert(slices.Clone(l), at, x))
			}
		}
		finds(t, []Act{x, {Write, 3, 1}, x, {Write, 3, 4}, x}, 0, 0, false)
		finds(t, []Act{x, {Write, 0, 1}, x, x, {Read, 1, 1}}, 1, 4, true)
		finds(t, append([]Act{x, x, x}, acts("0w1 0g4 0w1 1t4 1r1")...), 5, 7, true)
		finds(t, append([]Act{x, x, x}, acts("0w1 0g4 1t4 1r1")...), 0, 0, false)
		orders(t, []Act{{Give, 0, 4}, x, {Take, 1, 4}}, 0, 2, true)
		orders(t, []Act{{Give, 0, 4}, x, {Take, 1, 4}}, 0, 1, false)
		orders(t, []Act{{Give, 0, 4}, x, {Take, 1, 4}}, 1, 2, false)
	}
}

// Any number is a word, and a place, of its own.
func TestAnyWordAndPlace(t *testing.T) { // 13.1, 13.2
	for _, x := range wide {
		for _, y := range wide {
			if x == y {
				finds(t, []Act{{Write, 0, x}, {Write, 1, y}}, 0, 1, true)
			} else {
				finds(t, []Act{{Write, 0, x}, {Write, 1, y}}, 0, 0, false)
			}
			orders(t, []Act{{Give, 0, x}, {Take, 1, y}}, 0, 1, x == y)
			orders(t, []Act{{Give, 0, x}, {Write, 1, y}}, 0, 1, false)
		}
	}
}

func TestEachTwoThreads(t *testing.T) { // 13.1, 13.2
	for a := range 8 {
		for b := range 8 {
			agrees(t, []Act{{Write, a, 1}, {Read, b, 1}})
			agrees(t, []Act{{Read, a, 1}, {Write, b, 1}})
			agrees(t, []Act{{Write, a, 1}, {Give, a, 2}, {Take, b, 2}, {Write, b, 1}})
			agrees(t, []Act{{Write, a, 1}, {Give, b, 2}, {Take, a, 2}, {Write, b, 1}})
		}
	}
}

// A long list, in which the thread 2 takes what the thread 0 gave half a list ago.
func TestLong(t *testing.T) { // 13.1, 13.2
	l := []Act{{Write, 5, 7}}
	for n := 1; n < 1<<19; n += 4 {
		l = append(l, Act{Read, 0, 1}, Act{Give, 0, n}, Act{Write, 5, n - math.MaxInt32}, Act{Take, 2, n/8*4 + 1})
	}
	end := len(l) - 1
	if i, k, ok := Find(l); i != 0 || k != 0 || ok {
		t.Errorf("Find = %d, %d, %v", i, k, ok)
	}
	half := l[end].At
	for _, c := range []struct {
		i, k int
		want bool
	}{{0, end - 1, true}, {0, end, false}, {1, end, true}, {1, end - 1, false}, {half, end, true}, {half + 1, end, true}, {half + 4, end, false}, {end - 2, end, false}} {
		if got := Ordered(l, c.i, c.k); got != c.want {
			t.Errorf("Ordered(%d, %d) = %v", c.i, c.k, got)
		}
	}
	for x, first := range map[Act]int{{Read, 1, 7}: 0, {Write, 2, 1}: half + 4, {Write, 2, 7}: 0, {Write, 6, 1}: 1} {
		if i, k, ok := Find(append(l, x)); i != first || k != len(l) || !ok {
			t.Errorf("%v behind: Find = %d, %d, %v; want %d, %d", x, i, k, ok, first, len(l))
		}
	}
}

// A list stays as it was, what stands behind it too, and later changes of it change no answer.
func TestHandedIn(t *testing.T) { // rules 4 and 6
	whole := acts("0w1 0g4 1t4 1r1 2w1 3w1 - 9r1")
	was := slices.Clone(whole)
	for n := range len(whole) + 1 {
		l := whole[:n]
		i, k, ok := Find(l)
		for a := range n {
			for b := range n {
				if Ordered(l, a, b) != Ordered(slices.Clone(l), a, b) {
					t.Errorf("Ordered(%v, %d, %d) hangs on what stands behind the list", l, a, b)
				}
			}
		}
		finds(t, slices.Clone(l), i, k, ok)
		finds(t, l, i, k, ok)
		if !slices.Equal(whole, was) {
			t.Fatalf("they are %v now", whole)
		}
	}
}
