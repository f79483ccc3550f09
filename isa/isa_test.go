package isa

import (
	"math"
	"slices"
	"strings"
	"testing"

	"deadlatch/api"
)

const top = math.MaxUint32

// told is a line of the document's table: the registers that a kind uses, of A, B and C, and what B and K are.
type told struct {
	name                 string
	registers            string
	maybeNone            bool
	word                 bool
	jumps, asks, drained bool
}

// document is its table, kind by kind, written out without the package's numbers.
var document = []told{
	{name: "halt"},
	{name: "set", registers: "A", word: true},
	{name: "move", registers: "AB"},
	{name: "add", registers: "ABC"},
	{name: "sub", registers: "ABC"},
	{name: "mul", registers: "ABC"},
	{name: "and", registers: "ABC"},
	{name: "or", registers: "ABC"},
	{name: "xor", registers: "ABC"},
	{name: "shl", registers: "ABC"},
	{name: "shr", registers: "ABC"},
	{name: "less", registers: "ABC"},
	{name: "same", registers: "ABC"},
	{name: "jump", jumps: true},
	{name: "zero", registers: "A", jumps: true},
	{name: "some", registers: "A", jumps: true},
	{name: "load", registers: "AB", maybeNone: true, word: true, asks: true},
	{name: "store", registers: "AB", maybeNone: true, word: true, asks: true},
	{name: "fence", drained: true},
	{name: "swap", registers: "AB", maybeNone: true, word: true, asks: true, drained: true},
	{name: "fetch", registers: "AB", maybeNone: true, word: true, asks: true, drained: true},
	{name: "cas", registers: "ABC", maybeNone: true, word: true, asks: true, drained: true},
	{name: "out", registers: "A"},
	{name: "wait", registers: "AB", maybeNone: true, word: true, asks: true, drained: true},
	{name: "wake", registers: "AB", maybeNone: true, word: true, asks: true, drained: true},
	{name: "remote", drained: true},
	{name: "yield"},
	{name: "mark", registers: "A", word: true},
}

// strangers are numbers of no kind: next to 0 and 27, and far off.
var strangers = []int{-1, 28, 29, -27, -28, 255, 256, 256 + 13, 1<<32 + 13, 1<<32 + 18, math.MaxInt32, math.MinInt32, math.MaxInt, math.MinInt}

// fields are what A, B and C are tried with: registers, and what is next to them, and far off.
var fields = []int{0, 1, 6, 7, 8, 9, -1, -8, 255, 256, 1 << 32, 1<<32 + 1, math.MaxInt, math.MinInt}

// words are what K is tried with; sizes, codes that are held against it.
var words = []uint32{0, 1, 2, 3, 4, 3999, 4000, 4001, 1<<31 - 1, 1 << 31, top - 1, top}
var sizes = []int{0, 1, 2, 3, 4, 3999, 4000, 4001, 1<<31 - 1, 1 << 31, top - 1, top, top + 1, math.MaxInt, -1, -2, math.MinInt32, math.MinInt}

// mayBe tells by the document's words whether the field of that letter may be n.
func (d told) mayBe(letter string, n int) bool {
	if !strings.Contains(d.registers, letter) {
		return n == 0
	}
	if letter == "B" && d.maybeNone && n == 8 {
		return true
	}
	return n >= 0 && n <= 7
}

// mayStand tells by the document's words whether i may stand in a code of size.
func mayStand(i api.Instr, size int) bool {
	if i.Op < 0 || i.Op > 27 {
		return false
	}
	d := document[i.Op]
	if !d.mayBe("A", i.A) || !d.mayBe("B", i.B) || !d.mayBe("C", i.C) {
		return false
	}
	if d.jumps {
		return size >= 0 && uint64(i.K) <= uint64(size)
	}
	return d.word || i.K == 0
}

func TestName(t *testing.T) { // 2.1
	if len(document) != 28 {
		t.Fatalf("the document has 28 kinds, not %d", len(document))
	}
	for op, d := range document {
		if Name(op) != d.name {
			t.Errorf("Name(%d) = %q; want %q", op, Name(op), d.name)
		}
	}
	for _, op := range strangers {
		if Name(op) != "" {
			t.Errorf("Name(%d) = %q", op, Name(op))
		}
	}
}

func TestNumber(t *testing.T) { // 2.1
	for op, d := range document {
		if n, ok := Number(d.name); n != op || !ok {
			t.Errorf("Number(%q) = %d, %v; want %d, true", d.name, n, ok, op)
		}
	}
	for _, d := range document {
		for _, s := range []string{d.name + " ", " " + d.name, d.name + "s", d.name[:len(d.name)-1], d.name + "\x00", strings.ToUpper(d.name), d.name + d.name} {
			if n, ok := Number(s); n != 0 || ok {
				t.Errorf("Number(%q) = %d, %v", s, n, ok)
			}
		}
	}
	for _, s := range []string{"", " ", "\x00", "0", "27", "nop", "fenc", "h\xffalt", strings.Repeat("mark", 10000)} {
		if n, ok := Number(s); n != 0 || ok {
			t.Errorf("Number(%.20q) = %d, %v", s, n, ok)
		}
	}
}

func TestRightByHand(t *testing.T) { // 2.1
	for _, c := range []struct {
		i    api.Instr
		size int
		want bool
	}{
		{api.Instr{Op: api.Set, A: 7, K: 5}, 1, true},
		{api.Instr{Op: api.Set, A: 8, K: 5}, 1, false},
		{api.Instr{Op: api.Set, A: -1, K: 5}, 1, false},
		{api.Instr{Op: api.Set, A: 7, B: 1, K: 5}, 1, false},
		{api.Instr{Op: api.Set, A: 7, C: 1, K: 5}, 1, false},
		{api.Instr{Op: api.Set, K: top}, 0, true},
		{api.Instr{Op: api.Jump, K: 3}, 3, true},
		{api.Instr{Op: api.Jump, K: 4}, 3, false},
		{api.Instr{Op: api.Jump, A: 1}, 3, false},
		{api.Instr{Op: api.Jump}, 0, true},
		{api.Instr{Op: api.Jump}, -1, false},
		{api.Instr{Op: api.Some, A: 7, K: top}, top, true},
		{api.Instr{Op: api.Some, A: 7, K: top}, top - 1, false},
		{api.Instr{Op: api.Zero}, math.MinInt, false},
		{api.Instr{Op: api.Halt}, -1, true},
		{api.Instr{Op: api.Halt, K: 1}, 1, false},
		{api.Instr{Op: api.Move, A: 7, B: 7}, 1, true},
		{api.Instr{Op: api.Move, A: 7, B: 8}, 1, false},
		{api.Instr{Op: api.Move, A: 7, B: 7, K: 1}, 1, false},
		{api.Instr{Op: api.Same, A: 7, B: 7, C: 7}, 1, true},
		{api.Instr{Op: api.Same, A: 7, B: 7, C: 8}, 1, false},
		{api.Instr{Op: api.Load, B: 8, K: top}, 1, true},
		{api.Instr{Op: api.Load, A: 8, B: 8}, 1, false},
		{api.Instr{Op: api.Load, B: 9}, 1, false},
		{api.Instr{Op: api.Load, B: -1}, 1, false},
		{api.Instr{Op: api.Load, C: 1}, 1, false},
		{api.Instr{Op: api.Cas, A: 7, B: 8, C: 7, K: top}, 1, true},
		{api.Instr{Op: api.Cas, A: 7, B: 8, C: 8}, 1, false},
		{api.Instr{Op: api.Mark, A: 7, K: top}, 1, true},
		{api.Instr{Op: api.Out, A: 7, K: 1}, 1, false},
		{api.Instr{Op: 28}, 1, false},
		{api.Instr{Op: -1}, 1, false},
	} {
		if Right(c.i, c.size) != c.want {
			t.Errorf("Right(%+v, %d) = %v", c.i, c.size, !c.want)
		}
	}
}

// each hands out instructions of all kinds and of none, their fields and K at their edges.
func each(f func(i api.Instr)) {
	for _, op := range kindsAndStrangers() {
		for _, a := range fields {
			for _, b := range fields {
				for _, c := range fields {
					for _, k := range words {
						f(api.Instr{Op: op, A: a, B: b, C: c, K: k})
					}
				}
			}
		}
	}
}

func kindsAndStrangers() []int {
	l := slices.Clone(strangers)
	for op := range document {
		l = append(l, op)
	}
	return l
}

func TestRightAtAllEdges(t *testing.T) { // 2.1
	each(func(i api.Instr) {
		for _, size := range []int{-1, 0, 3, 4000} {
			if want := mayStand(i, size); Right(i, size) != want {
				t.Fatalf("Right(%+v, %d) = %v", i, size, !want)
			}
		}
	})
}

func TestRightAtAllSizes(t *testing.T) { // 2.1
	for _, op := range kindsAndStrangers() {
		for _, k := range words {
			for _, size := range sizes {
				i := api.Instr{Op: op, K: k}
				if want := mayStand(i, size); Right(i, size) != want {
					t.Errorf("Right(%+v, %d) = %v", i, size, !want)
				}
			}
		}
	}
}

func TestJumpsAsksDrains(t *testing.T) { // 2.2
	for op, d := range document {
		if Jumps(op) != d.jumps {
			t.Errorf("Jumps(%s) = %v", d.name, !d.jumps)
		}
		if Asks(op) != d.asks {
			t.Errorf("Asks(%s) = %v", d.name, !d.asks)
		}
		if Drains(op) != d.drained {
			t.Errorf("Drains(%s) = %v", d.name, !d.drained)
		}
	}
	for _, op := range strangers {
		if Jumps(op) || Asks(op) || Drains(op) {
			t.Errorf("%d is of no kind: Jumps %v, Asks %v, Drains %v", op, Jumps(op), Asks(op), Drains(op))
		}
	}
}

// codes are n threads' codes, each of size instructions.
func codes(n, size int) [][]api.Instr {
	var l [][]api.Instr
	for range n {
		l = append(l, make([]api.Instr, size))
	}
	return l
}

func expectCheck(t *testing.T, what string, p api.Program, who, at int, e api.Errno) {
	t.Helper()
	if a, b, c := Check(p); a != who || b != at || c != e {
		t.Errorf("Check of %s = %d, %d, %d; want %d, %d, %d", what, a, b, c, who, at, e)
	}
}

func TestCheckCountsThreads(t *testing.T) { // 2.3
	for _, n := range []int{1, 2, 7, 8} {
		expectCheck(t, "a right number of threads", api.Program{Codes: codes(n, 1), Room: 1}, 0, 0, api.OK)
	}
	for _, n := range []int{0, 9, 10, 1000} {
		expectCheck(t, "another number of threads", api.Program{Codes: codes(n, 1), Room: 1}, -1, -1, api.ErrArg)
	}
	expectCheck(t, "an empty list of codes", api.Program{Codes: [][]api.Instr{}, Room: 1}, -1, -1, api.ErrArg)
	expectCheck(t, "nothing", api.Program{}, -1, -1, api.ErrArg)
}

func TestCheckHoldsTheRoom(t *testing.T) { // 2.3
	for room := 1; room <= 16; room++ {
		expectCheck(t, "a room", api.Program{Codes: codes(1, 1), Room: room}, 0, 0, api.OK)
	}
	for _, room := range []int{0, 17, 18, -1, -16, 1<<32 + 1, math.MaxInt, math.MinInt} {
		expectCheck(t, "no such room", api.Program{Codes: codes(1, 1), Room: room}, -1, -1, api.ErrArg)
	}
}

func TestCheckHoldsMemory(t *testing.T) { // 2.3
	for _, n := range []int{0, 1, 1023, 1024} {
		expectCheck(t, "memory", api.Program{Codes: codes(1, 1), Mem: make([]uint32, n), Room: 1}, 0, 0, api.OK)
	}
	for _, n := range []int{1025, 1026, 100000} {
		expectCheck(t, "more memory", api.Program{Codes: codes(1, 1), Mem: make([]uint32, n), Room: 1}, -1, -1, api.ErrLong)
	}
}

func TestCheckHoldsCodes(t *testing.T) { // 2.3
	for _, n := range []int{0, 1, 3999, 4000} {
		expectCheck(t, "codes", api.Program{Codes: codes(8, n), Room: 1}, 0, 0, api.OK)
	}
	expectCheck(t, "codes that are nil", api.Program{Codes: make([][]api.Instr, 8), Room: 16}, 0, 0, api.OK)
	for who := range 8 {
		for _, n := range []int{4001, 4002, 50000} {
			p := api.Program{Codes: codes(8, 4000), Room: 1}
			p.Codes[who] = make([]api.Instr, n)
			expectCheck(t, "a longer code", p, who, -1, api.ErrLong)
		}
	}
}

func TestCheckTellsTheFirstPlace(t *testing.T) { // 2.3
	for who := range 8 {
		for _, at := range []int{0, 1, 17, 3998, 3999} {
			p := api.Program{Codes: codes(8, 4000), Room: 1}
			p.Codes[who][at] = api.Instr{Op: api.Fence, A: 1}
			p.Codes[7][3999] = api.Instr{Op: 28}
			expectCheck(t, "what may not stand there", p, who, at, api.ErrForm)
		}
	}
}

func TestCheckHoldsPlacesAgainstTheThreadsOwnCode(t *testing.T) { // 2.3
	for op := api.Jump; op <= api.Some; op++ {
		long, short := make([]api.Instr, 5), make([]api.Instr, 3)
		long[4] = api.Instr{Op: op, K: 5}
		short[2] = api.Instr{Op: op, K: 3}
		expectCheck(t, "jumps to the end", api.Program{Codes: [][]api.Instr{long, short}, Room: 1}, 0, 0, api.OK)
		short[2].K = 4
		expectCheck(t, "a jump beyond it", api.Program{Codes: [][]api.Instr{long, short}, Room: 1}, 1, 2, api.ErrForm)
		long[4].K = top
		expectCheck(t, "two of them", api.Program{Codes: [][]api.Instr{long, short}, Room: 1}, 0, 4, api.ErrForm)
	}
}

func TestCheckTellsTheFirstFault(t *testing.T) { // 2.3
	wrong := []api.Instr{{Op: api.Yield}, {Op: api.Out, A: 8}}
	long := make([]api.Instr, 4001)
	long[0].Op = -1
	more := make([]uint32, 1025)
	expectCheck(t, "room ahead of memory", api.Program{Codes: [][]api.Instr{wrong}, Mem: more}, -1, -1, api.ErrArg)
	expectCheck(t, "threads ahead of memory", api.Program{Codes: codes(9, 4001), Mem: more, Room: 1}, -1, -1, api.ErrArg)
	expectCheck(t, "memory ahead of codes", api.Program{Codes: [][]api.Instr{long, wrong}, Mem: more, Room: 1}, -1, -1, api.ErrLong)
	expectCheck(t, "length ahead of form", api.Program{Codes: [][]api.Instr{long, wrong}, Room: 1}, 0, -1, api.ErrLong)
	expectCheck(t, "thread by thread", api.Program{Codes: [][]api.Instr{wrong, long}, Room: 1}, 0, 1, api.ErrForm)
	expectCheck(t, "threads that are right first", api.Program{Codes: [][]api.Instr{{}, long, wrong}, Room: 1}, 1, -1, api.ErrLong)
}

func TestCheckLeavesTheProgramAlone(t *testing.T) { // 2.3, and rule 4
	l := []api.Instr{{Op: api.Jump, K: 3}, {Op: api.Out, A: 8}, {Op: -5, A: 9}}
	was := slices.Clone(l)
	mem := []uint32{1, 2, 3}
	Check(api.Program{Codes: [][]api.Instr{l[:2], l[1:]}, Mem: mem[:2], Room: 1})
	if !slices.Equal(l, was) || !slices.Equal(mem, []uint32{1, 2, 3}) {
		t.Errorf("Check changed what it was handed: %v, %v", l, mem)
	}
}

// sum is k and by, by 2^32, from 0 on.
func sum(k uint32, by int) uint32 {
	const all = int64(1) << 32
	left := (int64(by)%all + all) % all
	return uint32((int64(k) + left) % all)
}

var moves = []int{0, 1, 2, 5, 4000, top, top + 1, top + 2, 1<<40 + 7, math.MaxInt, -1, -2, -5, -4000, -top, -top - 1, math.MinInt32, math.MinInt}

func TestMovedByHand(t *testing.T) { // 2.3
	l := []api.Instr{
		{Op: api.Jump, K: 7}, {Op: api.Set, A: 1, K: 7}, {Op: api.Zero, A: 2, K: 8}, {Op: api.Load, A: 1, B: 8, K: 7},
		{Op: api.Some, A: 3, K: 0}, {Op: api.Mark, A: 4, K: 7}, {Op: api.Cas, A: 1, B: 2, C: 3, K: 7}, {Op: 28, K: 7}, {Op: -1, K: 7},
	}
	for _, c := range []struct {
		by                   int
		first, second, third uint32
	}{
		{0, 7, 8, 0}, {5, 12, 13, 5}, {-5, 2, 3, top - 4}, {-8, top, 0, top - 7}, {top, 6, 7, top}, {top + 1, 7, 8, 0}, {math.MinInt, 7, 8, 0}, {math.MaxInt, 6, 7, top},
	} {
		want := slices.Clone(l)
		want[0].K, want[2].K, want[4].K = c.first, c.second, c.third
		if got := Moved(l, c.by); !slices.Equal(got, want) {
			t.Errorf("Moved(.., %d) = %v; want %v", c.by, got, want)
		}
	}
}

func TestMovedMovesPlacesAlone(t *testing.T) { // 2.3
	for _, op := range kindsAndStrangers() {
		for _, k := range words {
			for _, by := range moves {
				i := api.Instr{Op: op, A: 9, B: -3, C: 77, K: k}
				want := i
				if op >= 13 && op <= 15 {
					want.K = sum(k, by)
				}
				if got := Moved([]api.Instr{i}, by); len(got) != 1 || got[0] != want {
					t.Errorf("Moved(%+v, %d) = %+v; want %+v", i, by, got, want)
				}
			}
		}
	}
}

func TestMovedOfAnEmptyList(t *testing.T) { // 2.3
	for _, l := range [][]api.Instr{nil, {}, make([]api.Instr, 0, 5)} {
		for _, by := range moves {
			if got := Moved(l, by); len(got) != 0 {
				t.Errorf("Moved(%v, %d) = %v", l, by, got)
			}
		}
	}
}

func TestMovedIsNewMemory(t *testing.T) { // 2.3, and rule 4
	for _, by := range []int{0, 3} {
		l := []api.Instr{{Op: api.Jump, K: 1}, {Op: api.Set, K: 2}, {Op: api.Some, K: 3}, {Op: api.Zero, K: 4}}
		was := slices.Clone(l)
		first, second := Moved(l[:2], by), Moved(l[:2], by)
		spare := first[:cap(first)]
		for at := range spare {
			spare[at] = api.Instr{Op: 99, K: 99}
		}
		if !slices.Equal(l, was) {
			t.Errorf("Moved(.., %d) shares memory with its list: %v", by, l)
		}
		if second[0].K != 1+uint32(by) || second[1] != was[1] {
			t.Errorf("two answers of Moved(.., %d) share memory: %v", by, second)
		}
	}
}

func TestEachKindHasANameOfItsOwn(t *testing.T) { // 2.4
	seen := map[string]int{}
	for op := range 28 {
		name := Name(op)
		if other, twice := seen[name]; twice || name == "" {
			t.Errorf("Name(%d) = %q, like that of %d", op, name, other)
		}
		seen[name] = op
		if n, ok := Number(name); n != op || !ok {
			t.Errorf("Number(Name(%d)) = %d, %v", op, n, ok)
		}
	}
}

func TestWhatMayStandMayStandInALongerCode(t *testing.T) { // 2.4
	may := 0
	each(func(i api.Instr) {
		for _, size := range []int{0, 3, 3999, 4000} {
			if !Right(i, size) {
				continue
			}
			may++
			for _, more := range []int{1, 2, 4000, top, 1 << 40} {
				if !Right(i, size+more) {
					t.Fatalf("%+v may stand in a code of %d, not of %d", i, size, size+more)
				}
			}
		}
	})
	if may == 0 {
		t.Error("nothing may stand anywhere")
	}
}

func TestWhatIsMovedMayStandInACodeThatIsLongerByAsMuch(t *testing.T) { // 2.4
	each(func(i api.Instr) {
		for _, size := range []int{0, 3, 4000} {
			for _, by := range []int{0, 1, 4000, top - 4000, top, top + 1, 1<<40 + 3} {
				if Right(i, size) && !Right(Moved([]api.Instr{i}, by)[0], size+by) {
					t.Fatalf("%+v, moved by %d, may not stand in a code of %d", i, by, size+by)
				}
			}
		}
	})
}

func TestAMovedCodeStandsBehindOthers(t *testing.T) { // 2.4
	l := []api.Instr{{Op: api.Zero, A: 1, K: 0}, {Op: api.Jump, K: 3}, {Op: api.Some, A: 7, K: 2}}
	for _, ahead := range []int{0, 1, 100, 3997} {
		whole := append(make([]api.Instr, ahead), Moved(l, ahead)...)
		expectCheck(t, "a code behind others", api.Program{Codes: [][]api.Instr{whole}, Room: 1}, 0, 0, api.OK)
		if back := Moved(Moved(l, ahead), -ahead); !slices.Equal(back, l) {
			t.Errorf("moved by %d and back: %v", ahead, back)
		}
	}
}

func FuzzRight(f *testing.F) { // 2.1, 2.3
	f.Add(13, 0, 0, 0, uint32(3), 3)
	f.Add(21, 7, 8, 7, uint32(top), 0)
	f.Add(28, 0, 0, 0, uint32(0), 1)
	f.Fuzz(func(t *testing.T, op, a, b, c int, k uint32, size int) {
		i := api.Instr{Op: op, A: a, B: b, C: c, K: k}
		want := mayStand(i, size)
		if Right(i, size) != want {
			t.Errorf("Right(%+v, %d) = %v", i, size, !want)
		}
		moved := i
		if op >= 13 && op <= 15 {
			moved.K = sum(k, size)
		}
		if got := Moved([]api.Instr{i}, size); len(got) != 1 || got[0] != moved {
			t.Errorf("Moved(%+v, %d) = %+v", i, size, got)
		}
	})
}
