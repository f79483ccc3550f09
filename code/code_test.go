package code

import (
	"bytes"
	"encoding/binary"
	"math"
	"math/rand"
	"reflect"
	"slices"
	"testing"

	"deadlatch/api"
	"deadlatch/isa"
)

const top = math.MaxUint32

// outside are numbers that no byte is: next to 0 and 255, and far off, some of whose lowest bytes are small.
var outside = []int{-1, 256, -255, -256, 257, 511, 512, 1 << 16, 1 << 31, 1 << 32, 1<<32 + 1, math.MaxInt32, math.MinInt32, math.MaxInt, math.MinInt}

// laid is a program's bytes by the document's words, whether the program may be or not.
func laid(p api.Program) []byte {
	b := append([]byte{'d', 'l', '1'}, byte(len(p.Codes)), byte(p.Room))
	b = binary.LittleEndian.AppendUint16(b, uint16(len(p.Mem)))
	for _, w := range p.Mem {
		b = binary.LittleEndian.AppendUint32(b, w)
	}
	for _, l := range p.Codes {
		b = binary.LittleEndian.AppendUint16(b, uint16(len(l)))
		for _, i := range l {
			b = append(b, byte(i.Op), byte(i.A), byte(i.B), byte(i.C))
			b = binary.LittleEndian.AppendUint32(b, i.K)
		}
	}
	return b
}

// told is how many bytes b tells that there are, or -1, if it ends ahead of telling it.
func told(b []byte) int {
	if len(b) < 7 {
		return -1
	}
	end := 7 + 4*int(binary.LittleEndian.Uint16(b[5:]))
	for range b[3] {
		if len(b) < end+2 {
			return -1
		}
		end += 2 + 8*int(binary.LittleEndian.Uint16(b[end:]))
	}
	return end
}

// judged is the place and the error that Read has to answer of b, where they hang on how many bytes there are, or on the first three.
func judged(b []byte) (int, api.Errno) {
	switch end := told(b); {
	case len(b) < 3:
		return len(b), api.ErrShort
	case string(b[:3]) != "dl1":
		return 0, api.ErrForm
	case end < 0 || end > len(b):
		return len(b), api.ErrShort
	case end < len(b):
		return end, api.ErrLong
	}
	return 0, api.OK
}

// alike tells whether two programs are one; a list without elements is one, nil or not.
func alike(p, q api.Program) bool {
	return p.Room == q.Room && slices.Equal(p.Mem, q.Mem) &&
		slices.EqualFunc(p.Codes, q.Codes, slices.Equal[[]api.Instr])
}

func isZero(p api.Program) bool { return p.Room == 0 && len(p.Mem) == 0 && len(p.Codes) == 0 }

// several are programs that may be, each unlike the others.
func several() []api.Program {
	code := []api.Instr{{Op: api.Set, A: 1, K: 258}, {Op: api.Cas, A: 2, B: 8, C: 3, K: top}, {Op: api.Some, A: 7, K: 3}}
	long := make([]api.Instr, 4000)
	for at := range long {
		long[at] = api.Instr{Op: api.Mark, A: at % 8, K: uint32(at) * 0x01020305}
	}
	mem := make([]uint32, 1024)
	for at := range mem {
		mem[at] = uint32(at) * 0x9e3779b1
	}
	return []api.Program{
		{Codes: [][]api.Instr{nil}, Room: 1},
		{Codes: [][]api.Instr{nil}, Room: 16},
		{Codes: [][]api.Instr{nil, {}}, Room: 1},
		{Codes: make([][]api.Instr, 8), Room: 1},
		{Codes: [][]api.Instr{nil}, Mem: []uint32{0}, Room: 1},
		{Codes: [][]api.Instr{nil}, Mem: []uint32{0, 0}, Room: 1},
		{Codes: [][]api.Instr{nil}, Mem: []uint32{1, 1 << 8, 1 << 16, 1 << 24, top}, Room: 1},
		{Codes: [][]api.Instr{nil}, Mem: mem, Room: 2},
		{Codes: [][]api.Instr{{{}}}, Room: 1},
		{Codes: [][]api.Instr{{{}, {}}}, Room: 1},
		{Codes: [][]api.Instr{{{}}, nil}, Room: 1},
		{Codes: [][]api.Instr{nil, {{}}}, Room: 1},
		{Codes: [][]api.Instr{code}, Mem: []uint32{7, 1 << 31}, Room: 2},
		{Codes: [][]api.Instr{code, nil, code}, Mem: []uint32{7, 1 << 31}, Room: 2},
		{Codes: [][]api.Instr{long}, Room: 3},
		{Codes: [][]api.Instr{long, code, long, nil, long, long, long, long}, Mem: mem, Room: 16},
	}
}

// refused are programs that may not be, and what Check has to say of them.
func refused() map[string]struct {
	p api.Program
	e api.Errno
} {
	one := [][]api.Instr{{{Op: api.Halt}}}
	wrong := [][]api.Instr{{{Op: api.Halt}, {Op: 28}}}
	return map[string]struct {
		p api.Program
		e api.Errno
	}{
		"no thread":                           {api.Program{Room: 1}, api.ErrArg},
		"nine threads":                        {api.Program{Codes: make([][]api.Instr, 9), Room: 1}, api.ErrArg},
		"no room":                             {api.Program{Codes: one}, api.ErrArg},
		"a room of 17":                        {api.Program{Codes: one, Room: 17}, api.ErrArg},
		"1025 words":                          {api.Program{Codes: one, Mem: make([]uint32, 1025), Room: 1}, api.ErrLong},
		"no room, and 1025 words":             {api.Program{Codes: one, Mem: make([]uint32, 1025)}, api.ErrArg},
		"1025 words, and a wrong instruction": {api.Program{Codes: wrong, Mem: make([]uint32, 1025), Room: 1}, api.ErrLong},
		"4001 instructions":                   {api.Program{Codes: [][]api.Instr{nil, make([]api.Instr, 4001)}, Room: 1}, api.ErrLong},
		"4001 instructions behind a wrong one": {api.Program{Codes: [][]api.Instr{wrong[0], make([]api.Instr, 4001)}, Room: 1},
			api.ErrForm},
		"4001 instructions ahead of a wrong one": {api.Program{Codes: [][]api.Instr{make([]api.Instr, 4001), wrong[0]}, Room: 1},
			api.ErrLong},
		"no such kind":       {api.Program{Codes: wrong, Room: 1}, api.ErrForm},
		"no such register":   {api.Program{Codes: [][]api.Instr{{{Op: api.Out, A: 8}}}, Room: 1}, api.ErrForm},
		"a field of another": {api.Program{Codes: [][]api.Instr{{{Op: api.Fence, C: 255}}}, Room: 1}, api.ErrForm},
		"a word of another":  {api.Program{Codes: [][]api.Instr{{{Op: api.Yield, K: 1}}}, Room: 1}, api.ErrForm},
		"a jump too far":     {api.Program{Codes: [][]api.Instr{{{Op: api.Jump, K: 2}}}, Room: 1}, api.ErrForm},
	}
}

func TestSize(t *testing.T) { // 3.1
	if Size != 8 {
		t.Errorf("Size = %d", Size)
	}
	if b, _ := Put(api.Instr{}); len(b) != Size {
		t.Errorf("Put = %v", b)
	}
}

func TestPut(t *testing.T) { // 3.1
	for _, c := range []struct {
		i    api.Instr
		want []byte
	}{
		{api.Instr{Op: api.Set, A: 1, K: 258}, []byte{1, 1, 0, 0, 2, 1, 0, 0}},
		{api.Instr{}, []byte{0, 0, 0, 0, 0, 0, 0, 0}},
		{api.Instr{Op: 255, A: 255, B: 255, C: 255, K: top}, []byte{255, 255, 255, 255, 255, 255, 255, 255}},
		{api.Instr{Op: 1, A: 2, B: 3, C: 4, K: 0x08070605}, []byte{1, 2, 3, 4, 5, 6, 7, 8}},
		{api.Instr{Op: 28, K: 1 << 31}, []byte{28, 0, 0, 0, 0, 0, 0, 128}},
		{api.Instr{K: 255}, []byte{0, 0, 0, 0, 255, 0, 0, 0}},
		{api.Instr{K: 256}, []byte{0, 0, 0, 0, 0, 1, 0, 0}},
		{api.Instr{K: 1 << 16}, []byte{0, 0, 0, 0, 0, 0, 1, 0}},
	} {
		if b, e := Put(c.i); !bytes.Equal(b, c.want) || e != api.OK {
			t.Errorf("Put(%v) = %v, %d; want %v", c.i, b, e, c.want)
		}
	}
}

func TestPutEachField(t *testing.T) { // 3.1
	for at := range 4 {
		put := func(n int) ([]byte, api.Errno) {
			f := [4]int{255, 255, 255, 255}
			f[at] = n
			return Put(api.Instr{Op: f[0], A: f[1], B: f[2], C: f[3], K: 7})
		}
		for n := range 256 {
			want := []byte{255, 255, 255, 255, 7, 0, 0, 0}
			want[at] = byte(n)
			if b, e := put(n); !bytes.Equal(b, want) || e != api.OK {
				t.Errorf("Put with %d at %d = %v, %d", n, at, b, e)
			}
		}
		for _, n := range outside {
			if b, e := put(n); len(b) != 0 || e != api.ErrArg {
				t.Errorf("Put with %d at %d = %v, %d", n, at, b, e)
			}
		}
	}
}

func TestGet(t *testing.T) { // 3.1
	all := []byte{1, 2, 3, 4, 5, 6, 7, 8, 9, 10}
	for n := range Size {
		if i, e := Get(all[:n]); i != (api.Instr{}) || e != api.ErrShort {
			t.Errorf("Get of %d bytes = %v, %d", n, i, e)
		}
	}
	if i, e := Get(nil); i != (api.Instr{}) || e != api.ErrShort {
		t.Errorf("Get(nil) = %v, %d", i, e)
	}
	want := api.Instr{Op: 1, A: 2, B: 3, C: 4, K: 0x08070605}
	for n := Size; n <= len(all); n++ {
		if i, e := Get(all[:n]); i != want || e != api.OK {
			t.Errorf("Get of %d bytes = %v, %d", n, i, e)
		}
	}
	for _, c := range []struct {
		b    []byte
		want api.Instr
	}{
		{[]byte{1, 1, 0, 0, 2, 1, 0, 0}, api.Instr{Op: api.Set, A: 1, K: 258}},
		{make([]byte, 8), api.Instr{}},
		{bytes.Repeat([]byte{255}, 9), api.Instr{Op: 255, A: 255, B: 255, C: 255, K: top}},
		{[]byte{28, 0, 0, 0, 0, 0, 0, 128}, api.Instr{Op: 28, K: 1 << 31}},
	} {
		if i, e := Get(c.b); i != c.want || e != api.OK {
			t.Errorf("Get(%v) = %v, %d; want %v", c.b, i, e, c.want)
		}
	}
}

// Each bit of the eight bytes is a bit of the instruction, and there are no others.
func TestPutGet(t *testing.T) { // 3.1, 3.3
	seen := map[api.Instr]bool{}
	for bit := range 64 {
		b := binary.LittleEndian.AppendUint64(nil, 1<<bit)
		i, e := Get(b)
		if e != api.OK || seen[i] {
			t.Errorf("Get(%v) = %v, %d", b, i, e)
		}
		seen[i] = true
		if back, e := Put(i); !bytes.Equal(back, b) || e != api.OK {
			t.Errorf("Put(%v) = %v, %d; want %v", i, back, e, b)
		}
	}
}

func TestWriteByHand(t *testing.T) { // 3.2
	for _, c := range []struct {
		p    api.Program
		want string
	}{
		{api.Program{Codes: [][]api.Instr{nil}, Room: 1}, "dl1\x01\x01\x00\x00\x00\x00"},
		{api.Program{Codes: [][]api.Instr{{}, {}}, Mem: []uint32{}, Room: 16}, "dl1\x02\x10\x00\x00\x00\x00\x00\x00"},
		{
			api.Program{Codes: [][]api.Instr{{{Op: api.Set, A: 1, K: 258}}, nil}, Mem: []uint32{0x04030201}, Room: 5},
			"dl1\x02\x05\x01\x00\x01\x02\x03\x04\x01\x00\x01\x01\x00\x00\x02\x01\x00\x00\x00\x00",
		},
		{
			api.Program{Codes: [][]api.Instr{{{Op: api.Cas, A: 1, B: 8, C: 2, K: 9}, {Op: api.Jump, K: 2}}}, Room: 3},
			"dl1\x01\x03\x00\x00\x02\x00\x15\x01\x08\x02\x09\x00\x00\x00\x0d\x00\x00\x00\x02\x00\x00\x00",
		},
	} {
		if b, e := Write(c.p); string(b) != c.want || e != api.OK {
			t.Errorf("Write(%v) = %q, %d; want %q", c.p, b, e, c.want)
		}
		if p, n, e := Read([]byte(c.want)); !alike(p, c.p) || n != 0 || e != api.OK {
			t.Errorf("Read(%q) = %v, %d, %d", c.want, p, n, e)
		}
	}
}

func TestWrite(t *testing.T) { // 3.2
	for at, p := range several() {
		if b, e := Write(p); !bytes.Equal(b, laid(p)) || e != api.OK {
			t.Errorf("Write of the program %d = %.40v, %d; want %.40v", at, b, e, laid(p))
		}
	}
	for threads := 1; threads <= 8; threads++ {
		for room := 1; room <= 16; room++ {
			b, e := Write(api.Program{Codes: make([][]api.Instr, threads), Room: room})
			want := append([]byte{'d', 'l', '1', byte(threads), byte(room), 0, 0}, make([]byte, 2*threads)...)
			if !bytes.Equal(b, want) || e != api.OK {
				t.Errorf("Write of %d threads and the room %d = %v, %d", threads, room, b, e)
			}
		}
	}
}

// Two bytes tell counts: both of them, at the greatest that there are.
func TestWriteCounts(t *testing.T) { // 3.2
	p := api.Program{Codes: [][]api.Instr{make([]api.Instr, 4000), make([]api.Instr, 255), make([]api.Instr, 256)}, Mem: make([]uint32, 1024), Room: 1}
	b, e := Write(p)
	if e != api.OK || len(b) != 7+4*1024+3*2+8*(4000+255+256) {
		t.Fatalf("Write = %d bytes, %d", len(b), e)
	}
	first := 7 + 4*1024
	second := first + 2 + 8*4000
	third := second + 2 + 8*255
	for _, c := range []struct{ at, low, high int }{{5, 0, 4}, {first, 0xa0, 0x0f}, {second, 0xff, 0}, {third, 0, 1}} {
		if int(b[c.at]) != c.low || int(b[c.at+1]) != c.high {
			t.Errorf("the count at %d is %d, %d", c.at, b[c.at], b[c.at+1])
		}
	}
	if q, n, e := Read(b); !alike(p, q) || n != 0 || e != api.OK {
		t.Errorf("Read = %d codes, %d, %d", len(q.Codes), n, e)
	}
}

func TestWriteRefused(t *testing.T) { // 3.2
	for name, c := range refused() {
		if b, e := Write(c.p); len(b) != 0 || e != c.e {
			t.Errorf("Write of %s = %.20v, %d; want %d", name, b, e, c.e)
		}
	}
	for _, n := range outside {
		if b, e := Write(api.Program{Codes: [][]api.Instr{nil}, Room: n}); len(b) != 0 || e != api.ErrArg {
			t.Errorf("Write of the room %d = %v, %d", n, b, e)
		}
		for _, i := range []api.Instr{{Op: n}, {Op: api.Add, A: n}, {Op: api.Add, B: n}, {Op: api.Add, C: n}} {
			if b, e := Write(api.Program{Codes: [][]api.Instr{{i}}, Room: 1}); len(b) != 0 || e != api.ErrForm {
				t.Errorf("Write of %v = %v, %d", i, b, e)
			}
		}
	}
}

func TestReadRefused(t *testing.T) { // 3.2
	for name, c := range refused() {
		if p, n, e := Read(laid(c.p)); !isZero(p) || n != 0 || e != c.e {
			t.Errorf("Read of %s = %d codes, %d, %d; want %d", name, len(p.Codes), n, e, c.e)
		}
	}
	for _, room := range []byte{0, 17, 18, 127, 128, 255} {
		if p, n, e := Read([]byte{'d', 'l', '1', 1, room, 0, 0, 0, 0}); !isZero(p) || n != 0 || e != api.ErrArg {
			t.Errorf("Read of the room %d = %v, %d, %d", room, p, n, e)
		}
	}
	for threads := 9; threads < 256; threads++ {
		b := append([]byte{'d', 'l', '1', byte(threads), 1, 0, 0}, make([]byte, 2*threads)...)
		if p, n, e := Read(b); !isZero(p) || n != 0 || e != api.ErrArg {
			t.Errorf("Read of %d threads = %v, %d, %d", threads, p, n, e)
		}
	}
}

func TestReadFirstThree(t *testing.T) { // 3.2
	for _, c := range []struct {
		b string
		n int
		e api.Errno
	}{
		{"", 0, api.ErrShort}, {"d", 1, api.ErrShort}, {"x", 1, api.ErrShort}, {"dl", 2, api.ErrShort}, {"xy", 2, api.ErrShort},
		{"dl1", 3, api.ErrShort}, {"dl2", 0, api.ErrForm}, {"dL1", 0, api.ErrForm}, {"Dl1", 0, api.ErrForm}, {"\x00\x00\x00", 0, api.ErrForm},
		{"dlx", 0, api.ErrForm}, {"1ld", 0, api.ErrForm}, {" dl1", 0, api.ErrForm},
		{"dl2\x01\x01\x00\x00\x00\x00", 0, api.ErrForm},
		{"dl2\x01\x01\x00\x00\x00\x00left", 0, api.ErrForm},
		{"xl1\x00\x00\x00\x00", 0, api.ErrForm},
	} {
		if p, n, e := Read([]byte(c.b)); !isZero(p) || n != c.n || e != c.e {
			t.Errorf("Read(%q) = %v, %d, %d; want %d, %d", c.b, p, n, e, c.n, c.e)
		}
	}
	if p, n, e := Read(nil); !isZero(p) || n != 0 || e != api.ErrShort {
		t.Errorf("Read(nil) = %v, %d, %d", p, n, e)
	}
}

func TestReadShort(t *testing.T) { // 3.2, 3.3
	for at, p := range several() {
		b := laid(p)
		step := 1 + len(b)/400 // each place of a short one
		for n := 0; n < len(b); n += step {
			if q, place, e := Read(b[:n]); !isZero(q) || place != n || e != api.ErrShort {
				t.Fatalf("Read of %d bytes of the program %d = %v, %d, %d", n, at, q, place, e)
			}
		}
		if q, place, e := Read(b[:len(b)-1]); !isZero(q) || place != len(b)-1 || e != api.ErrShort {
			t.Errorf("Read of all but one byte of the program %d = %v, %d, %d", at, q, place, e)
		}
	}
}

// What is told counts, not what may be told: bytes that tell too much of it may be too short as well.
func TestReadShortFirst(t *testing.T) { // 3.2
	for _, s := range []string{
		"dl1\x00\x00\x00", "dl1\x00\x00\x01\x00", "dl1\xff\xff\xff\xff", "dl1\xff\x01\x00\x00", "dl1\x00\x01\xff\xff\x01\x02\x03\x04",
		"dl1\x01\x00\x00\x00", "dl1\x01\x01\x00\x00\x00", "dl1\x01\x01\x00\x00\xff\xff", "dl1\x01\x01\x00\x00\x01\x00\x1c\x00\x00\x00\x00\x00\x00",
		"dl1\x02\x01\x00\x00\x01\x00\x1c\x00\x00\x00\x00\x00\x00\x00\x00", "dl1\x09\x11\x00\x00\x00\x00",
	} {
		if p, n, e := Read([]byte(s)); !isZero(p) || n != len(s) || e != api.ErrShort {
			t.Errorf("Read(%q) = %v, %d, %d", s, p, n, e)
		}
	}
}

func TestReadLong(t *testing.T) { // 3.2
	for at, p := range several() {
		b := laid(p)
		for _, left := range []string{"x", "\x00", "\x00\x00", "dl1", string(b)} {
			if q, n, e := Read(append(bytes.Clone(b), left...)); !isZero(q) || n != len(b) || e != api.ErrLong {
				t.Errorf("Read of the program %d and %.9q = %d, %d; want %d", at, left, n, e, len(b))
			}
		}
	}
	for name, c := range refused() {
		b := laid(c.p)
		if p, n, e := Read(append(bytes.Clone(b), 0)); !isZero(p) || n != len(b) || e != api.ErrLong {
			t.Errorf("Read of %s and a byte = %d, %d; want %d", name, n, e, len(b))
		}
	}
}

// The most that bytes can tell, and what is next to it.
func TestReadMost(t *testing.T) { // 3.2
	b := append([]byte{'d', 'l', '1', 4, 1, 255, 255}, make([]byte, 4*65535)...)
	for range 4 {
		b = append(append(b, 255, 255), make([]byte, 8*65535)...)
	}
	for _, c := range []struct {
		size, n int
		e       api.Errno
	}{{len(b), 0, api.ErrLong}, {len(b) - 1, len(b) - 1, api.ErrShort}} {
		if p, n, e := Read(b[:c.size]); !isZero(p) || n != c.n || e != c.e {
			t.Errorf("Read of %d bytes = %d, %d; want %d, %d", c.size, n, e, c.n, c.e)
		}
	}
	if p, n, e := Read(append(b, 0)); !isZero(p) || n != len(b) || e != api.ErrLong {
		t.Errorf("Read of one more = %d, %d", n, e)
	}
}

func TestWrittenIsRead(t *testing.T) { // 3.3
	for at, p := range several() {
		b, _ := Write(p)
		q, n, e := Read(b)
		if !alike(p, q) || n != 0 || e != api.OK {
			t.Errorf("the program %d is read as another: %d, %d", at, n, e)
		}
		if again, e := Write(q); !bytes.Equal(again, b) || e != api.OK {
			t.Errorf("the program %d is written anew as another: %d", at, e)
		}
	}
}

func TestUnlike(t *testing.T) { // 3.3
	seen := map[string]int{}
	for at, p := range several() {
		b, _ := Write(p)
		if was, ok := seen[string(b)]; ok {
			t.Errorf("the programs %d and %d have the same bytes", was, at)
		}
		seen[string(b)] = at
	}
	for b := range seen {
		for c := range seen {
			if b != c && bytes.HasPrefix([]byte(c), []byte(b)) {
				t.Errorf("the program %d is a front of the program %d", seen[b], seen[c])
			}
		}
	}
}

// chance is a program that may be, made by chance.
func chance(r *rand.Rand) api.Program {
	p := api.Program{Codes: make([][]api.Instr, 1+r.Intn(8)), Mem: make([]uint32, r.Intn(5)), Room: 1 + r.Intn(16)}
	for at := range p.Mem {
		p.Mem[at] = r.Uint32()
	}
	for who := range p.Codes {
		l := make([]api.Instr, r.Intn(4))
		for at := range l {
			for {
				l[at] = api.Instr{Op: r.Intn(28), A: r.Intn(8), B: r.Intn(9), C: r.Intn(8), K: r.Uint32() >> r.Intn(33)}
				if isa.Right(l[at], len(l)) {
					break
				}
			}
		}
		p.Codes[who] = l
	}
	return p
}

func TestByChance(t *testing.T) { // 3.2, 3.3
	r := rand.New(rand.NewSource(3))
	for range 300 {
		p := chance(r)
		b, e := Write(p)
		if !bytes.Equal(b, laid(p)) || e != api.OK {
			t.Fatalf("Write(%v) = %v, %d", p, b, e)
		}
		checkRead(t, b)
		b[r.Intn(len(b))] = byte(r.Intn(256))
		checkRead(t, b)
		checkRead(t, b[:r.Intn(len(b))])
	}
}

// checkRead holds what Read answers of b against the document's words.
func checkRead(t *testing.T, b []byte) {
	t.Helper()
	p, n, e := Read(b)
	at, want := judged(b)
	switch {
	case want != api.OK:
		if !isZero(p) || n != at || e != want {
			t.Errorf("Read(%q) = %v, %d, %d; want %d, %d", b, p, n, e, at, want)
		}
	case e != api.OK:
		if !isZero(p) || n != 0 || e == api.ErrShort {
			t.Errorf("Read(%q) = %v, %d, %d", b, p, n, e)
		}
	default:
		if back, e := Write(p); n != 0 || !bytes.Equal(back, b) || e != api.OK {
			t.Errorf("Read(%q) = %v, %d, which is written as %q, %d", b, p, n, back, e)
		}
	}
}

func FuzzRead(f *testing.F) { // 3.2, 3.3
	for _, p := range several()[:14] {
		f.Add(laid(p))
	}
	for _, c := range refused() {
		if b := laid(c.p); len(b) < 100 {
			f.Add(b)
		}
	}
	f.Add([]byte{})
	f.Add([]byte("dl2"))
	f.Fuzz(func(t *testing.T, b []byte) { checkRead(t, b) })
}

// What is handed in stays as it was, its spare room included, and what is handed out shares nothing with it.
func TestNothingShared(t *testing.T) { // 3.1, 3.2
	long := []byte("dl1\x02\x02\x02\x00\x07\x00\x00\x00\x00\x00\x00\x80\x01\x00\x01\x01\x00\x00\x02\x01\x00\x00\x01\x00\x16\x03\x00\x00\x00\x00\x00\x00spare room")
	was := bytes.Clone(long)
	b := long[:len(long)-len("spare room")]
	p, _, e := Read(b)
	q, _, _ := Read(b)
	if e != api.OK || !bytes.Equal(long, was) {
		t.Fatalf("Read = %d, and leaves %q", e, long)
	}
	i, _ := Get(b[17:])
	put, _ := Put(i)
	clear(long)
	if !reflect.DeepEqual(p, q) || !bytes.Equal(laid(p), was[:len(b)]) || !bytes.Equal(put, was[17:25]) {
		t.Errorf("what was read has changed with its bytes: %v", p)
	}
	for _, l := range p.Codes {
		clear(l[:cap(l)])
	}
	clear(p.Mem[:cap(p.Mem)])
	if !bytes.Equal(laid(q), was[:len(b)]) {
		t.Errorf("two programs share memory: %v", q)
	}
	for _, at := range []int{0, 1} {
		p, _, _ := Read(was[:len(b)])
		l := p.Codes[at]
		clear(l[:cap(l)])
		if p.Codes[1-at][0] == (api.Instr{}) || p.Mem[0] != 7 {
			t.Errorf("two lists of one program share memory: %v", p)
		}
	}
}

func TestWriteLeavesItsProgram(t *testing.T) { // 3.2
	for at, p := range several() {
		want := several()[at]
		first, _ := Write(p)
		second, _ := Write(p)
		clear(first[:cap(first)])
		if !reflect.DeepEqual(p, want) || !bytes.Equal(second, laid(want)) {
			t.Errorf("Write changes the program %d, or shares what it answers", at)
		}
	}
	first, _ := Put(api.Instr{A: 5})
	second, _ := Put(api.Instr{A: 5})
	clear(first[:cap(first)])
	if second[1] != 5 {
		t.Errorf("Put shares what it answers")
	}
}
