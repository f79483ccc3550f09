package alu

import (
	"math"
	"slices"
	"testing"

	"deadlatch/api"
)

const top = math.MaxUint32

// words are ordinary ones and those at the edges: of a word, of its sign, and of the places that it is moved by.
var words = []uint32{0, 1, 2, 3, 5, 6, 7, 15, 16, 17, 30, 31, 32, 33, 34, 63, 64, 65, 1000, 0x0f0f0f0f, 0x12345678, 0xaaaaaaaa, 1<<31 - 1, 1 << 31, 1<<31 + 1, top - 32, top - 31, top - 1, top}

// strangers are numbers of no operation: next to Add and Same, and far off.
var strangers = []int{api.Add - 1, api.Same + 1, api.Halt, api.Set, api.Mark, api.Mark + 1, -1, -api.Add, -api.Same, 256 + api.Add, 1<<16 + api.Add, math.MaxInt32, math.MinInt32, math.MaxInt, math.MinInt}

// narrow is what is left of a number by 2^32, from 0 on.
func narrow(n int64) uint32 {
	const all = int64(1) << 32
	return uint32((n%all + all) % all)
}

// bitwise asks f of each pair of bits.
func bitwise(a, b uint32, f func(x, y uint32) bool) uint32 {
	var n uint32
	for i := range 32 {
		if f(a>>i&1, b>>i&1) {
			n += 1 << i
		}
	}
	return n
}

func product(a, b uint32) uint32 {
	low := int64(a) * int64(b%65536)
	high := int64(narrow(int64(a)*int64(b/65536))) * 65536
	return narrow(low + int64(narrow(high)))
}

func up(a, places uint32) uint32 {
	for range places % 32 {
		a = narrow(int64(a) * 2)
	}
	return a
}

func down(a, places uint32) uint32 {
	for range places % 32 {
		a /= 2
	}
	return a
}

func one(b bool) uint32 {
	if b {
		return 1
	}
	return 0
}

// asked is what the document asks of an operation, worked out by other means than the package's.
func asked(op int, a, b uint32) uint32 {
	switch op {
	case api.Add:
		return narrow(int64(a) + int64(b))
	case api.Sub:
		return narrow(int64(a) - int64(b))
	case api.Mul:
		return product(a, b)
	case api.And:
		return bitwise(a, b, func(x, y uint32) bool { return x+y == 2 })
	case api.Or:
		return bitwise(a, b, func(x, y uint32) bool { return x+y > 0 })
	case api.Xor:
		return bitwise(a, b, func(x, y uint32) bool { return x+y == 1 })
	case api.Shl:
		return up(a, b)
	case api.Shr:
		return down(a, b)
	case api.Less:
		return one(int64(a)-int64(b) < 0)
	}
	return one(int64(a)-int64(b) == 0)
}

func expect(t *testing.T, op int, a, b, want uint32) {
	t.Helper()
	if n, ok := Do(op, a, b); n != want || !ok {
		t.Errorf("Do(%d, %d, %d) = %d, %v; want %d, true", op, a, b, n, ok, want)
	}
}

func TestIs(t *testing.T) { // 1.1
	for op := -300; op <= 300; op++ {
		if want := op >= 3 && op <= 12; Is(op) != want {
			t.Errorf("Is(%d) = %v", op, !want)
		}
	}
	for _, op := range strangers {
		if Is(op) {
			t.Errorf("Is(%d) = true", op)
		}
	}
}

func TestDoByHand(t *testing.T) { // 1.1
	for _, c := range []struct {
		op         int
		a, b, want uint32
	}{
		{api.Add, 2, 3, 5}, {api.Add, top, 1, 0}, {api.Add, top, top, top - 1}, {api.Add, 1 << 31, 1 << 31, 0},
		{api.Sub, 7, 3, 4}, {api.Sub, 0, 1, 4294967295}, {api.Sub, 3, 7, top - 3}, {api.Sub, top, top, 0},
		{api.Mul, 6, 7, 42}, {api.Mul, 1 << 16, 1 << 16, 0}, {api.Mul, top, top, 1}, {api.Mul, top, 2, top - 1},
		{api.And, 0xc, 0xa, 8}, {api.And, top, 0, 0}, {api.Or, 0xc, 0xa, 0xe}, {api.Or, top, 0, top},
		{api.Xor, 0xc, 0xa, 6}, {api.Xor, top, top, 0},
		{api.Shl, 3, 1, 6}, {api.Shl, 1, 31, 1 << 31}, {api.Shl, 3, 31, 1 << 31},
		{api.Shl, 3, 32, 3}, {api.Shl, 3, 33, 6}, {api.Shl, 3, 64, 3}, {api.Shl, 3, 1 << 31, 3}, {api.Shl, 3, top, 1 << 31},
		{api.Shr, 6, 1, 3}, {api.Shr, top, 31, 1}, {api.Shr, 1 << 31, 31, 1}, {api.Shr, 1 << 31, 4, 1 << 27},
		{api.Shr, 6, 32, 6}, {api.Shr, 6, 33, 3}, {api.Shr, 6, 64, 6}, {api.Shr, 6, 1 << 31, 6}, {api.Shr, top, top, 1},
		{api.Less, 1, 2, 1}, {api.Less, 2, 2, 0}, {api.Less, 2, 1, 0}, {api.Less, 1, top, 1}, {api.Less, top, 0, 0}, {api.Less, 1<<31 - 1, 1 << 31, 1},
		{api.Same, 2, 2, 1}, {api.Same, 2, 3, 0}, {api.Same, top, top, 1}, {api.Same, 0, 1 << 31, 0},
	} {
		expect(t, c.op, c.a, c.b, c.want)
	}
}

func TestDoAtAllPairs(t *testing.T) { // 1.1
	for op := api.Add; op <= api.Same; op++ {
		for _, a := range words {
			for _, b := range words {
				expect(t, op, a, b, asked(op, a, b))
			}
		}
	}
}

func TestDoOfNoOperation(t *testing.T) { // 1.1
	for _, op := range strangers {
		for _, a := range words {
			if n, ok := Do(op, a, a); n != 0 || ok {
				t.Errorf("Do(%d, %d, %d) = %d, %v", op, a, a, n, ok)
			}
		}
	}
}

func TestFoldByHand(t *testing.T) { // 1.2
	for _, c := range []struct {
		op    int
		first uint32
		l     []uint32
		want  uint32
	}{
		{api.Add, 1, []uint32{2, 3, 4}, 10}, {api.Add, top, []uint32{1, top, 2}, 1},
		{api.Sub, 9, []uint32{1, 2}, 6}, {api.Sub, 0, []uint32{1, 1}, top - 1}, {api.Sub, 9, []uint32{9}, 0},
		{api.Mul, 2, []uint32{3, 5}, 30}, {api.Mul, 2, []uint32{1 << 31, 5}, 0},
		{api.And, 15, []uint32{7, 14}, 6}, {api.Or, 1, []uint32{2, 8}, 11}, {api.Xor, 1, []uint32{3, 7}, 5},
		{api.Shl, 1, []uint32{2, 33}, 8}, {api.Shl, 3, []uint32{31, 31}, 0}, {api.Shr, 64, []uint32{1, 34}, 8},
		{api.Less, 5, []uint32{9, 1}, 0}, {api.Less, 5, []uint32{9, 2}, 1}, {api.Same, 5, []uint32{5, 1}, 1}, {api.Same, 5, []uint32{5, 5}, 0},
	} {
		if n, ok := Fold(c.op, c.first, c.l); n != c.want || !ok {
			t.Errorf("Fold(%d, %d, %v) = %d, %v; want %d, true", c.op, c.first, c.l, n, ok, c.want)
		}
	}
}

func TestFoldIsDoneFromTheFirstOn(t *testing.T) { // 1.2
	for op := api.Add; op <= api.Same; op++ {
		for _, first := range words {
			want := first
			for i := range words {
				want = asked(op, want, words[i])
				if n, ok := Fold(op, first, words[:i+1]); n != want || !ok {
					t.Errorf("Fold(%d, %d, %v) = %d, %v; want %d, true", op, first, words[:i+1], n, ok, want)
				}
			}
		}
	}
}

func TestFoldOfAnEmptyList(t *testing.T) { // 1.2
	for op := api.Add; op <= api.Same; op++ {
		for _, first := range words {
			for _, l := range [][]uint32{nil, {}} {
				if n, ok := Fold(op, first, l); n != first || !ok {
					t.Errorf("Fold(%d, %d, %v) = %d, %v", op, first, l, n, ok)
				}
			}
		}
	}
}

func TestFoldOfNoOperation(t *testing.T) { // 1.2
	for _, op := range strangers {
		for _, l := range [][]uint32{nil, {}, {7}, words} {
			if n, ok := Fold(op, 9, l); n != 0 || ok {
				t.Errorf("Fold(%d, 9, %v) = %d, %v", op, l, n, ok)
			}
		}
	}
}

func TestFoldLeavesItsListAlone(t *testing.T) { // 1.2, and rule 4
	whole := slices.Clone(words)
	for op := api.Add - 1; op <= api.Same+1; op++ {
		Fold(op, 5, whole[:len(whole)-3])
		if !slices.Equal(whole, words) {
			t.Fatalf("Fold(%d, ..) changed its list", op)
		}
	}
}

func TestMinus(t *testing.T) { // 1.2
	for n, want := range map[uint32]uint32{0: 0, 1: 4294967295, 2: 4294967294, top: 1, 1 << 31: 1 << 31, 1<<31 - 1: 1<<31 + 1} {
		if Minus(n) != want {
			t.Errorf("Minus(%d) = %d; want %d", n, Minus(n), want)
		}
	}
	for _, n := range words {
		if want := asked(api.Sub, 0, n); Minus(n) != want {
			t.Errorf("Minus(%d) = %d; want %d", n, Minus(n), want)
		}
	}
}

// does is Do of an operation that there is.
func does(t *testing.T, op int, a, b uint32) uint32 {
	t.Helper()
	n, ok := Do(op, a, b)
	if !ok {
		t.Fatalf("Do(%d, %d, %d) answers false", op, a, b)
	}
	return n
}

func TestWhatIsAddedIsTakenAwayAgain(t *testing.T) { // 1.3
	for _, a := range words {
		for _, b := range words {
			sum := does(t, api.Add, a, b)
			if n := does(t, api.Sub, sum, b); n != a {
				t.Errorf("%d and %d, less %d: %d", a, b, b, n)
			}
			if n := does(t, api.Add, sum, Minus(b)); n != a {
				t.Errorf("%d and %d, and Minus(%d): %d", a, b, b, n)
			}
			if n := does(t, api.Add, does(t, api.Sub, a, b), b); n != a {
				t.Errorf("%d less %d, and %d: %d", a, b, b, n)
			}
		}
		sum, _ := Fold(api.Add, a, words)
		if n, ok := Fold(api.Sub, sum, words); n != a || !ok {
			t.Errorf("Fold takes what it added to %d away: %d, %v", a, n, ok)
		}
	}
}

func TestWordsMovedUpByOneAreAddedToThemselves(t *testing.T) { // 1.3
	for _, a := range words {
		for _, places := range []uint32{1, 33, 65, top - 30} {
			if up, sum := does(t, api.Shl, a, places), does(t, api.Add, a, a); up != sum {
				t.Errorf("%d moved up by %d is %d; added to itself, %d", a, places, up, sum)
			}
		}
	}
}

func FuzzDo(f *testing.F) { // 1.1, 1.2
	f.Add(api.Sub, uint32(0), uint32(1))
	f.Add(api.Shl, uint32(3), uint32(33))
	f.Add(api.Same+1, uint32(3), uint32(33))
	f.Fuzz(func(t *testing.T, op int, a, b uint32) {
		var want uint32
		is := op >= 3 && op <= 12
		if is {
			want = asked(op, a, b)
		}
		if n, ok := Do(op, a, b); n != want || ok != is {
			t.Errorf("Do(%d, %d, %d) = %d, %v; want %d, %v", op, a, b, n, ok, want, is)
		}
		if n, ok := Fold(op, a, []uint32{b}); n != want || ok != is {
			t.Errorf("Fold(%d, %d, [%d]) = %d, %v; want %d, %v", op, a, b, n, ok, want, is)
		}
	})
}
