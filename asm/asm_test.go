package asm

import (
	"math"
	"math/rand"
	"slices"
	"strings"
	"testing"

	"deadlatch/api"
	"deadlatch/isa"
)

const top = math.MaxUint32

// refuses holds Parse of a text against the line and the error that it has to answer.
func refuses(t *testing.T, s string, line int, wrong api.Errno) {
	t.Helper()
	if l, n, e := Parse(s); len(l) != 0 || n != line || e != wrong {
		t.Errorf("Parse(%s) = %.3v, %d, %d; want %d, %d", short(s), l, n, e, line, wrong)
	}
}

// reads holds Parse of a text against the code that it has to answer.
func reads(t *testing.T, s string, want ...api.Instr) {
	t.Helper()
	if l, n, e := Parse(s); !slices.Equal(l, want) || n != 0 || e != api.OK {
		t.Errorf("Parse(%s) = %.3v, %d, %d; want %.3v", short(s), l, n, e, want)
	}
}

func TestName(t *testing.T) { // 4.1
	for s, want := range map[string]bool{
		"": false, "a": true, "z": true, "m": true, "a0": true, "a9": true, "az": true, "halt": true, "r1": true,
		strings.Repeat("a", 20): true, strings.Repeat("a", 21): false, strings.Repeat("z9", 10): true, strings.Repeat("z9", 10) + "0": false,
		strings.Repeat("a", 20000): false,
		"0":                        false, "9": false, "1a": false, "0a": false, "9z": false, "12": false,
		"A": false, "Z": false, "aA": false, "aZ": false, "Ab": false,
		"a b": false, " a": false, "a ": false, "a:": false, ":": false, "@a": false, "a_b": false, "a-b": false, "a.b": false, "a\n": false, "\na": false, "a\x00": false,
		"é": false, "aé": false, "ａ": false, "a\u0301": false, "a٣": false, "ß": false, "\xff": false, "a\xff": false, "a\xc3": false, "\xefa": false,
		"aaaaaaaaaaaaaaaaaaé": false, // 20 bytes, 19 letters
	} {
		if Name(s) != want {
			t.Errorf("Name(%s) = %v", short(s), !want)
		}
	}
}

func TestNameEachByte(t *testing.T) { // 4.1
	for n := range 256 {
		b := byte(n)
		letter := strings.IndexByte("abcdefghijklmnopqrstuvwxyz", b) >= 0
		digit := strings.IndexByte("0123456789", b) >= 0
		if s := string([]byte{b}); Name(s) != letter {
			t.Errorf("Name(%q) = %v", s, !letter)
		}
		for at := 1; at < 20; at++ {
			s := []byte("abcdefghij0123456789")
			s[at] = b
			if want := letter || digit; Name(string(s)) != want || Name(string(s[:at+1])) != want {
				t.Errorf("Name(%q) isn't %v", s, want)
			}
		}
	}
}

func TestParseByHand(t *testing.T) { // 4.2
	reads(t, "spin:\nload r4 [20]\nsome r4 @spin", api.Instr{Op: api.Load, A: 4, B: 8, K: 20}, api.Instr{Op: api.Some, A: 4, K: 0})
	reads(t, "halt", api.Instr{})
	reads(t, "set r4 7", api.Instr{Op: api.Set, A: 4, K: 7})
	reads(t, "mark r7 12", api.Instr{Op: api.Mark, A: 7, K: 12})
	reads(t, "move r5 r4", api.Instr{Op: api.Move, A: 5, B: 4})
	reads(t, "add r6 r4 r5", api.Instr{Op: api.Add, A: 6, B: 4, C: 5})
	reads(t, "cas r1 r2 [r3+9]", api.Instr{Op: api.Cas, A: 1, B: 3, C: 2, K: 9})
	reads(t, "cas r1 r2 [9]", api.Instr{Op: api.Cas, A: 1, B: 8, C: 2, K: 9})
	reads(t, "store r1 [r0+0]", api.Instr{Op: api.Store, A: 1, B: 0, K: 0})
	reads(t, "wake r3 [r7+4294967295]", api.Instr{Op: api.Wake, A: 3, B: 7, K: top})
	reads(t, "jump @1", api.Instr{Op: api.Jump, K: 1})
	reads(t, "zero r3 @0", api.Instr{Op: api.Zero, A: 3})
	reads(t, "out r7", api.Instr{Op: api.Out, A: 7})
}

// Each kind is read with each of its words at its edges, and with a word less and a word more it is none.
func TestParseEachKind(t *testing.T) { // 4.2
	for op := range forms {
		for _, i := range []api.Instr{made(op, 0, 0, 0, 0), made(op, 7, 8, 7, 1), made(op, 1, 2, 3, 1), made(op, 3, 7, 1, 0)} {
			s := tellLine(i)
			reads(t, s, i)
			reads(t, s+"\n", i)
			for _, wrong := range []string{s + " ", " " + s, s + " r0", s + " 0", s + "  ", "\t" + s, s + "\r", s + "\x00", s + ";", strings.ToUpper(s[:1]) + s[1:], s + s} {
				refuses(t, wrong, 1, api.ErrForm)
			}
			words := strings.Split(s, " ")
			for at := range words {
				refuses(t, "halt\n"+strings.Join(words[:at], " ")+" ", 2, api.ErrForm)
				if at > 0 {
					refuses(t, strings.Join(words[:at], " "), 1, api.ErrForm)
					refuses(t, strings.Join(words[:at], " ")+"  "+strings.Join(words[at:], " "), 1, api.ErrForm)
					refuses(t, strings.Join(words[:at], " ")+"\t"+strings.Join(words[at:], " "), 1, api.ErrForm)
					refuses(t, strings.Join(words[1:], " "), 1, api.ErrForm)
				}
			}
		}
		if big := made(op, 7, 7, 7, top); !isa.Jumps(op) {
			reads(t, tellLine(big), big)
		}
	}
}

func TestParseRegisters(t *testing.T) { // 4.2
	for _, frame := range []string{"out %", "set % 5", "mark % 5", "move % r1", "move r1 %", "less % r1 r2", "less r1 % r2", "less r1 r2 %", "zero % @0", "fetch % [5]", "fetch r1 [%+5]", "cas % r1 [5]", "cas r1 % [5]", "cas r1 r1 [%+5]"} {
		for _, r := range []string{"r0", "r1", "r6", "r7"} {
			s := strings.Replace(frame, "%", r, 1)
			if l, n, e := Parse(s); len(l) != 1 || n != 0 || e != api.OK {
				t.Errorf("Parse(%q) = %v, %d, %d", s, l, n, e)
			}
		}
		for _, r := range []string{"r8", "r9", "r", "r00", "r07", "r10", "r-1", "r+1", "R1", "1", "0", "x1", "r:", "r/", "rr", "r1r", "", "@1", "[1]", "r１", "\xff1", "r1,"} {
			refuses(t, strings.Replace(frame, "%", r, 1), 1, api.ErrForm)
		}
	}
}

func TestParseNumbers(t *testing.T) { // 4.2
	for _, frame := range []string{"set r1 %", "mark r1 %", "load r1 [%]", "load r1 [r2+%]", "cas r1 r2 [%]"} {
		for s, want := range map[string]uint32{"0": 0, "1": 1, "9": 9, "10": 10, "100": 100, "2147483648": 1 << 31, "4294967295": top, "4000000000": 4000000000} {
			line := strings.Replace(frame, "%", s, 1)
			if l, n, e := Parse(line); len(l) != 1 || n != 0 || e != api.OK || l[0].K != want {
				t.Errorf("Parse(%q) = %v, %d, %d", line, l, n, e)
			}
		}
		for _, s := range []string{"4294967296", "4294967300", "10000000000", "18446744073709551615", "18446744073709551616", "99999999999999999999999999", "00", "01", "007", "04294967295", "-1", "-0", "+1", "+0", "", "a", "0x1", "1a", "a1", "1_0", "1e3", "1.0", "1,0", " 1", "1 ", "٣", "r1", "\xff"} {
			refuses(t, strings.Replace(frame, "%", s, 1), 1, api.ErrForm)
		}
	}
}

func TestParseAddresses(t *testing.T) { // 4.2
	for _, name := range []string{"load", "store", "swap", "fetch", "wait", "wake", "cas r2"} {
		front := name + " r1 "
		for s, b := range map[string]int{"[9]": 8, "[r0+9]": 0, "[r3+9]": 3, "[r7+9]": 7} {
			if l, n, e := Parse(front + s); len(l) != 1 || n != 0 || e != api.OK || l[0].B != b || l[0].K != 9 {
				t.Errorf("Parse(%q) = %v, %d, %d", front+s, l, n, e)
			}
		}
		for _, s := range []string{
			"[]", "[", "]", "", "9", "[9", "9]", "]9[", "[[9]]", "[9]]", "[[9]", "(9)", "[9)", "[r2]", "[r2+]", "[+9]", "[+]", "[r8+9]", "[8+9]", "[9+r2]", "[r2+r3]", "[r2+9+1]", "[r2++9]", "[r2-9]", "[r2+-9]", "[9+1]", "[-9]",
			"[ 9]", "[9 ]", "[r2 +9]", "[r2+ 9]", "[r2 + 9]", "[ r2+9]", "[r2+9 ]", "[\t9]", "r2+9", "[r2+9", "r2+9]", "[9]x", "x[9]", "[09]", "[r2+09]", "[R2+9]", "[r+9]", "[@9]", "@9", "r1",
		} {
			refuses(t, front+s, 1, api.ErrForm)
		}
	}
}

func TestParsePlaces(t *testing.T) { // 4.2
	for _, front := range []string{"jump ", "zero r5 ", "some r5 "} {
		k := func(s string, want uint32) {
			t.Helper()
			if l, n, e := Parse(s); n != 0 || e != api.OK || len(l) == 0 || l[0].K != want {
				t.Errorf("Parse(%q) = %v, %d, %d; want a jump to %d", s, l, n, e, want)
			}
		}
		k(front+"@0", 0)
		k(front+"@1", 1)
		k(front+"@2\nhalt", 2)
		k(front+"@3\nhalt\na:\n\nhalt\nb:", 3)
		k(front+"@a\nhalt\na:\nhalt\nb:", 2)
		k(front+"@b\nhalt\na:\nhalt\nb:", 3)
		k("c:\n"+front+"@c\nhalt", 0)
		k("c:\nd:\n"+front+"@d\nhalt", 0)
		k(front+"@r1\nhalt\nr1:\nr2:\nhalt", 2)
		k(front+"@halt\nhalt\nhalt:", 2)
		k(front+"@a123456789b123456789\nhalt\na123456789b123456789:", 2)
		refuses(t, front+"@2", 1, api.ErrNone)
		refuses(t, "halt\n"+front+"@3", 2, api.ErrNone)
		refuses(t, front+"@4\nhalt\na:\n\nhalt\nb:", 1, api.ErrNone)
		refuses(t, front+"@4294967295", 1, api.ErrNone)
		refuses(t, front+"@a", 1, api.ErrNone)
		refuses(t, "b:\nhalt\n\n"+front+"@a\nhalt\naa:", 4, api.ErrNone)
		refuses(t, front+"@ab\na:\nb:", 1, api.ErrNone)
		for _, s := range []string{"", "0", "a", "@", "@@", "@@a", "@ a", "@-1", "@+1", "@00", "@01", "@4294967296", "@99999999999999999999999", "@A", "@a:b", "@1a", "@a_", "@é", "@a\xff", "@a123456789b123456789c", "[0]", "r1", "@[0]", "@0@", "#0", "@a\t"} {
			refuses(t, front+s+"\na:\nhalt", 1, api.ErrForm)
		}
	}
}

// What doesn't jump has no place, and what jumps has no word without @.
func TestParseKindsOfWords(t *testing.T) { // 4.2
	for _, s := range []string{"set r1 @0", "mark r1 @0", "out @0", "load r1 @0", "add r1 r2 @0", "halt @0", "fence r1", "yield 0", "remote [0]", "set r1 [0]", "move r1 0", "move r1 [0]", "cas r1 [0] r2", "cas [0] r1 r2", "load [0] r1", "zero @0 r1", "set 5 r1", "cas r1 [0]", "load r1 r2 [0]"} {
		refuses(t, s, 1, api.ErrForm)
	}
	for _, s := range []string{"x", "nop", "Halt", "HALT", "hal", "halts", "0", "@0", "r0", "[0]", " ", "  ", "\t", "\r", "\x00", "\xff", "é", ";", "#", "//", "halt;halt", "halt halt", "halt#", "a: halt", "a:halt", ": halt"} {
		refuses(t, s, 1, api.ErrForm)
		refuses(t, "halt\n\n"+s+"\nx\na:\na:\njump @b", 3, api.ErrForm)
	}
}

func TestParseLines(t *testing.T) { // 4.2
	reads(t, "")
	reads(t, "\n")
	reads(t, "\n\n\n")
	reads(t, "a:")
	reads(t, "\na:\n\nb:\n")
	reads(t, "halt\n", api.Instr{})
	reads(t, "\n\nhalt\n\n\nyield\n\n", api.Instr{}, api.Instr{Op: api.Yield})
	reads(t, "halt\nyield", api.Instr{}, api.Instr{Op: api.Yield})
	refuses(t, "\n\nx", 3, api.ErrForm)
	refuses(t, "\n\nx\n", 3, api.ErrForm)
	refuses(t, "halt\n\n\n \n", 4, api.ErrForm)
	refuses(t, "halt\r\nhalt", 1, api.ErrForm)
	refuses(t, "halt\rhalt", 1, api.ErrForm)
	refuses(t, "halt\n\r\n", 2, api.ErrForm)
	refuses(t, "halt\u2028halt", 1, api.ErrForm)
}

func TestParseNames(t *testing.T) { // 4.2
	for _, s := range []string{":", "::", "a::", ":a:", " a:", "a :", "1:", "1a:", "A:", "aA:", "a_b:", "a b:", "@a:", "a-:", "é:", "\xff:", "a\xff:", "a\x00:", "a123456789b123456789c:", strings.Repeat("a", 19999) + ":", "jump @a:", "load r4 [20]:", "set r1 5:", "halt :", "\t:"} {
		refuses(t, s, 1, api.ErrForm)
		refuses(t, (s + "\nhalt\na:\na:")[:min(20000, len(s)+11)], 1, api.ErrForm)
	}
	refuses(t, "a:\na:", 2, api.ErrTwice)
	refuses(t, "a:\nhalt\n\nb:\na:\nx", 5, api.ErrTwice)
	refuses(t, "jump @q\na:\nhalt\na:\nx", 4, api.ErrTwice)
	refuses(t, "b:\na:\nb:\na:", 3, api.ErrTwice)
	refuses(t, "a123456789b123456789:\na123456789b123456789:", 2, api.ErrTwice)
	reads(t, "a:\naa:\na1:\na0:\nb:")
}

// Lines count in their order; only behind the last of them it counts where jumps go.
func TestParseOrder(t *testing.T) { // 4.2
	refuses(t, "jump @q\nx", 2, api.ErrForm)
	refuses(t, "jump @9\na:\na:", 3, api.ErrTwice)
	refuses(t, "a:\na:\nx", 2, api.ErrTwice)
	refuses(t, "x\na:\na:", 1, api.ErrForm)
	refuses(t, "jump @9\njump @q", 1, api.ErrNone)
	refuses(t, "jump @q\njump @9", 1, api.ErrNone)
	refuses(t, "q:\njump @q\n\nsome r1 @9\nzero r1 @p", 4, api.ErrNone)
	refuses(t, "q:\njump @q\n\nsome r1 @p\nzero r1 @9", 4, api.ErrNone)
}

func TestParseLong(t *testing.T) { // 4.2
	blanks := strings.Repeat("\n", 19996)
	reads(t, blanks+"halt", api.Instr{})
	refuses(t, blanks+"\nhalt", 0, api.ErrLong)
	refuses(t, blanks+"haltx", 0, api.ErrLong)
	refuses(t, "x"+blanks+"halt", 0, api.ErrLong)
	reads(t, strings.Repeat("\n", 20000))
	refuses(t, strings.Repeat("\n", 20001), 0, api.ErrLong)
	refuses(t, strings.Repeat("x", 20000), 1, api.ErrForm)
	refuses(t, strings.Repeat("x", 20001), 0, api.ErrLong)
	refuses(t, strings.Repeat("x", 1000000), 0, api.ErrLong)
	refuses(t, blanks+"xxxx", 19997, api.ErrForm)
	reads(t, halts(4000), make([]api.Instr, 4000)...)
	reads(t, halts(4000)[:19999], make([]api.Instr, 4000)...)
	refuses(t, halts(4000)+"halt", 0, api.ErrLong)
}

// No text of 20000 bytes has more than 4000 instructions, so that the line behind them can be asked of the parser alone.
func TestParserFull(t *testing.T) { // 4.2
	full := func() *parser {
		return &parser{code: make([]api.Instr, 4000), lines: make([]int, 4000), places: map[string]int{"a": 7}}
	}
	for s, want := range map[string]api.Errno{"halt": api.ErrLong, "jump @a": api.ErrLong, "jump @q": api.ErrLong, "x": api.ErrForm, "halt ": api.ErrForm, ":": api.ErrForm, "a:": api.ErrTwice, "b:": api.OK, "": api.OK} {
		if e := full().read(s, 4001); e != want {
			t.Errorf("the line %q behind 4000 instructions: %d; want %d", s, e, want)
		}
	}
	p := full()
	p.code, p.lines = p.code[:3999], p.lines[:3999]
	for _, want := range []api.Errno{api.OK, api.ErrLong, api.ErrLong} {
		if e := p.read("yield", 5); e != want {
			t.Errorf("a line at %d instructions: %d; want %d", len(p.code), e, want)
		}
	}
	if p.read("b:", 6); p.places["b"] != 4000 || len(p.code) != 4000 {
		t.Errorf("b is at %d of %d", p.places["b"], len(p.code))
	}
}

// A panic that no line gave up by is a fault, and is not taken for a wrong line.
func TestReadOtherPanic(t *testing.T) { // 4.2
	defer func() {
		if recover() == nil {
			t.Errorf("a fault was taken for a line that gave up")
		}
	}()
	(&parser{}).read("a:", 1) // it has no map
}

func TestPrintByHand(t *testing.T) { // 4.3
	for _, c := range []struct {
		want string
		code []api.Instr
	}{
		{"", nil},
		{"", []api.Instr{}},
		{"halt\n", []api.Instr{{}}},
		{"load r4 [20]\nsome r4 @0\n", []api.Instr{{Op: api.Load, A: 4, B: 8, K: 20}, {Op: api.Some, A: 4}}},
		{"jump @1\n", []api.Instr{{Op: api.Jump, K: 1}}},
		{"cas r1 r2 [r3+9]\ncas r1 r2 [9]\n", []api.Instr{{Op: api.Cas, A: 1, B: 3, C: 2, K: 9}, {Op: api.Cas, A: 1, B: 8, C: 2, K: 9}}},
		{"set r7 4294967295\nmark r0 0\n", []api.Instr{{Op: api.Set, A: 7, K: top}, {Op: api.Mark}}},
		{"store r1 [r0+0]\nwake r6 [4294967295]\n", []api.Instr{{Op: api.Store, A: 1}, {Op: api.Wake, A: 6, B: 8, K: top}}},
		{"sub r1 r2 r3\nmove r4 r5\nout r6\n", []api.Instr{{Op: api.Sub, A: 1, B: 2, C: 3}, {Op: api.Move, A: 4, B: 5}, {Op: api.Out, A: 6}}},
		{"fence\nremote\nyield\nhalt\n", []api.Instr{{Op: api.Fence}, {Op: api.Remote}, {Op: api.Yield}, {Op: api.Halt}}},
	} {
		if s, e := Print(c.code); s != c.want || e != api.OK {
			t.Errorf("Print(%v) = %q, %d; want %q", c.code, s, e, c.want)
		}
	}
}

func TestPrintEachKind(t *testing.T) { // 4.3
	for op := range forms {
		for _, i := range []api.Instr{made(op, 0, 0, 0, 0), made(op, 7, 8, 7, 1), made(op, 1, 2, 3, 1), made(op, 3, 7, 1, 0)} {
			if s, e := Print([]api.Instr{i}); s != tellLine(i)+"\n" || e != api.OK {
				t.Errorf("Print(%v) = %q, %d", i, s, e)
			}
		}
	}
}

func TestPrintRefused(t *testing.T) { // 4.3
	wrong := []api.Instr{
		{Op: 28}, {Op: -1}, {Op: math.MaxInt}, {Op: math.MinInt}, {Op: api.Halt, A: 1}, {Op: api.Fence, K: 1}, {Op: api.Yield, B: 8}, {Op: api.Remote, C: 1},
		{Op: api.Out, A: 8}, {Op: api.Out, A: -1}, {Op: api.Set, A: 8}, {Op: api.Set, B: 1}, {Op: api.Move, B: 8}, {Op: api.Add, C: 8}, {Op: api.Add, B: math.MinInt},
		{Op: api.Load, B: 9}, {Op: api.Load, C: 1}, {Op: api.Cas, B: 9}, {Op: api.Cas, C: 8}, {Op: api.Cas, B: -1},
		{Op: api.Jump, K: 4}, {Op: api.Jump, K: top}, {Op: api.Jump, A: 1}, {Op: api.Zero, A: 8}, {Op: api.Some, K: 4},
	}
	for _, i := range wrong {
		for at := range 3 {
			code := make([]api.Instr, 3)
			code[at] = i
			if s, e := Print(code); s != "" || e != api.ErrForm {
				t.Errorf("Print(%v) = %q, %d", code, s, e)
			}
		}
	}
	code := make([]api.Instr, 4001)
	if s, e := Print(code[:4000]); s != halts(4000) || e != api.OK {
		t.Errorf("Print of 4000 = %s, %d", short(s), e)
	}
	if s, e := Print(code); s != "" || e != api.ErrLong {
		t.Errorf("Print of 4001 = %s, %d", short(s), e)
	}
	code[0].Op = 28
	if s, e := Print(code); s != "" || e != api.ErrLong {
		t.Errorf("Print of 4001, the first of them wrong = %s, %d", short(s), e)
	}
	if s, e := Print(code[:4000]); s != "" || e != api.ErrForm {
		t.Errorf("Print of 4000, the first of them wrong = %s, %d", short(s), e)
	}
}

func TestPrintLeavesCode(t *testing.T) { // 4.3
	room := []api.Instr{{Op: api.Set, A: 1, K: 5}, {Op: api.Jump, K: 0}, {Op: 99}}
	kept := slices.Clone(room)
	Print(room[:2])
	if !slices.Equal(room, kept) {
		t.Errorf("Print left %v", room)
	}
}

// anyCode is code that may be, of n instructions.
func anyCode(r *rand.Rand, n int) []api.Instr {
	code := make([]api.Instr, n)
	for at := range code {
		k := []uint32{0, 1, top, r.Uint32(), r.Uint32() % 100}[r.Intn(5)]
		op := r.Intn(len(forms))
		if isa.Jumps(op) {
			k = uint32(r.Intn(n + 1))
		}
		code[at] = made(op, r.Intn(8), r.Intn(9), r.Intn(8), k)
	}
	return code
}

func TestPrintedIsRead(t *testing.T) { // 4.3, 4.5
	r := rand.New(rand.NewSource(4))
	for range 500 {
		code := anyCode(r, r.Intn(40))
		want := ""
		for _, i := range code {
			want += tellLine(i) + "\n"
		}
		s, e := Print(code)
		if s != want || e != api.OK {
			t.Fatalf("Print(%v) = %q, %d; want %q", code, s, e, want)
		}
		reads(t, s, code...)
		reads(t, strings.TrimSuffix(s, "\n"), code...)
		reads(t, "\n"+strings.ReplaceAll(s, "\n", "\n\n"), code...)
	}
}

func TestPrintedTooLong(t *testing.T) { // 4.3, 4.5
	exact := append(make([]api.Instr, 3998), api.Instr{Op: api.Out}, api.Instr{Op: api.Out})
	if s, e := Print(exact); len(s) != 20004 || e != api.OK {
		t.Errorf("Print = %d bytes, %d", len(s), e)
	} else {
		refuses(t, s, 0, api.ErrLong)
	}
	long := slices.Repeat([]api.Instr{{Op: api.Cas, A: 1, B: 2, C: 3, K: top}}, 4000)
	s, e := Print(long)
	if want := strings.Repeat("cas r1 r3 [r2+4294967295]\n", 4000); s != want || e != api.OK {
		t.Errorf("Print = %s, %d", short(s), e)
	}
	refuses(t, s, 0, api.ErrLong)
}

// What is read is printed in one way: places by numbers, no lines that say nothing.
func TestReadIsPrinted(t *testing.T) { // 4.2, 4.3
	l, _, _ := Parse("\nspin:\nload r4 [r1+20]\n\nsome r4 @spin\njump @end\nyield\nend:\n")
	if s, e := Print(l); s != "load r4 [r1+20]\nsome r4 @0\njump @4\nyield\n" || e != api.OK {
		t.Errorf("Print(%v) = %q, %d", l, s, e)
	}
}

// Places may be called otherwise, and be told by numbers: the code is the same.
func TestPlacesNames(t *testing.T) { // 4.5
	r := rand.New(rand.NewSource(45))
	pool := []string{"a", "b", "halt", "jump", "r1", "r0", "end", "x9", "aaaaaaaaaaaaaaaaaaaa", "aaaaaaaaaaaaaaaaaaab"}
	for range 300 {
		code := anyCode(r, 1+r.Intn(20))
		for range 3 {
			names := slices.Clone(pool)
			r.Shuffle(len(names), func(i, j int) { names[i], names[j] = names[j], names[i] })
			called := map[int]string{}
			for _, name := range names {
				called[r.Intn(len(code)+1)] = name
			}
			s := ""
			for at := range len(code) + 1 {
				if name, ok := called[at]; ok {
					s += name + ":\n"
				}
				if at == len(code) {
					break
				}
				l := tellLine(code[at])
				if name, ok := called[int(code[at].K)]; ok && isa.Jumps(code[at].Op) {
					l = l[:strings.IndexByte(l, '@')+1] + name
				}
				s += l + "\n"
			}
			reads(t, s, code...)
		}
	}
}

// anyText is a text of lines that may be, some of them spoilt.
func anyText(r *rand.Rand) string {
	names := []string{"a", "b", "c", "spin", "r1", "halt"}
	var lines []string
	for range r.Intn(12) {
		i := made(r.Intn(len(forms)), r.Intn(8), r.Intn(9), r.Intn(8), uint32(r.Intn(10)))
		l := tellLine(i)
		switch r.Intn(6) {
		case 0:
			l = ""
		case 1:
			l = names[r.Intn(len(names))] + ":"
		case 2, 3:
			if at := strings.IndexByte(l, '@'); at >= 0 {
				l = l[:at+1] + names[r.Intn(len(names))]
			}
		}
		if r.Intn(40) == 0 {
			l = spoilt(r, l)
		}
		lines = append(lines, l)
	}
	return strings.Join(lines, "\n")
}

// spoilt is a line with a byte left out, put in, or changed.
func spoilt(r *rand.Rand, l string) string {
	at := r.Intn(len(l) + 1)
	b := string("r0189 :@[]+-a\nz\t\x00\xff"[r.Intn(18)])
	if at < len(l) && r.Intn(2) == 0 {
		return l[:at] + b + l[at+1:]
	}
	if at < len(l) && r.Intn(2) == 0 {
		return l[:at] + l[at+1:]
	}
	return l[:at] + b + l[at:]
}

func holdsAgainst(t *testing.T, s string) api.Errno {
	t.Helper()
	want, line, wrong := read(s)
	l, n, e := Parse(s)
	if !slices.Equal(l, want) || n != line || e != wrong {
		t.Fatalf("Parse(%q) = %v, %d, %d; want %v, %d, %d", s, l, n, e, want, line, wrong)
	}
	return e
}

func TestParseAny(t *testing.T) { // 4.2
	r := rand.New(rand.NewSource(42))
	seen := map[api.Errno]int{}
	for range 20000 {
		seen[holdsAgainst(t, anyText(r))]++
	}
	for _, e := range []api.Errno{api.OK, api.ErrForm, api.ErrTwice, api.ErrNone} {
		if seen[e] < 500 {
			t.Errorf("only %d texts come to %d", seen[e], e)
		}
	}
}

func TestAnswersAreNew(t *testing.T) { // 4.2
	s := "a:\nset r1 5\njump @a\n"
	l, _, _ := Parse(s)
	for at := range l[:cap(l)] {
		l[:cap(l)][at] = api.Instr{Op: 99}
	}
	reads(t, s, api.Instr{Op: api.Set, A: 1, K: 5}, api.Instr{Op: api.Jump})
}

func FuzzParse(f *testing.F) { // 4.2, 4.3, 4.5
	for _, s := range []string{"", "spin:\nload r4 [20]\nsome r4 @spin", "jump @end\nend:", "cas r1 r2 [r3+9]\n", "a:\na:", "jump @2", "set r1 01", "\xff:", "halt \n\n"} {
		f.Add(s)
	}
	f.Fuzz(func(t *testing.T, s string) {
		if holdsAgainst(t, s) != api.OK {
			return
		}
		l, _, _ := Parse(s)
		told, e := Print(l)
		if e != api.OK {
			t.Fatalf("Print(%v) = %d", l, e)
		}
		if len(told) <= 20000 {
			reads(t, told, l...)
		}
	})
}
