package asm

import (
	"math"
	"slices"
	"strings"
	"testing"

	"deadlatch/api"
	"deadlatch/isa"
)

// gives holds a builder's code against what it has to be.
func gives(t *testing.T, b *Builder, want ...api.Instr) {
	t.Helper()
	if l, ok := b.Code(); !slices.Equal(l, want) || !ok {
		t.Errorf("Code = %v, %v; want %v", l, ok, want)
	}
}

// givesNone holds that a builder has no code.
func givesNone(t *testing.T, b *Builder) {
	t.Helper()
	if l, ok := b.Code(); len(l) != 0 || ok {
		t.Errorf("Code = %v, %v", l, ok)
	}
}

func TestBuilderOfNothing(t *testing.T) { // 4.4
	var b Builder
	gives(t, &b)
	gives(t, new(Builder))
	gives(t, &Builder{})
	b.At("a")
	gives(t, &b)
	b.Do(api.Instr{})
	gives(t, &b, api.Instr{})
}

func TestBuilderAdds(t *testing.T) { // 4.4
	var b Builder
	b.Do(api.Instr{Op: api.Out, A: 3})
	b.Set(4, 7)
	b.Alu(api.Add, 1, 2, 3)
	b.Ask(api.Load, 4, 20)
	b.Cas(4, 5, 21)
	b.Ask(api.Wake, 6, math.MaxUint32)
	gives(t, &b,
		api.Instr{Op: api.Out, A: 3},
		api.Instr{Op: api.Set, A: 4, K: 7},
		api.Instr{Op: api.Add, A: 1, B: 2, C: 3},
		api.Instr{Op: api.Load, A: 4, B: 8, K: 20},
		api.Instr{Op: api.Cas, A: 4, B: 8, C: 5, K: 21},
		api.Instr{Op: api.Wake, A: 6, B: 8, K: math.MaxUint32})
}

// What is added is added as it is, whether it may be or not.
func TestBuilderAddsAnything(t *testing.T) { // 4.4
	odd := api.Instr{Op: -7, A: 99, B: math.MinInt, C: math.MaxInt, K: math.MaxUint32}
	var b Builder
	b.Do(odd)
	b.Do(api.Instr{Op: api.Jump, A: 5, K: 77})
	b.Set(-1, 1)
	b.Alu(api.Halt, 8, 9, -10)
	b.Alu(api.Jump, 1, 2, 3)
	b.Ask(28, 8, 0)
	b.Ask(api.Jump, 0, 5)
	b.Cas(100, -100, 9)
	b.At("a")
	b.Go(api.Jump, 6, "a")
	b.Go(api.Some, -3, "a")
	gives(t, &b, odd,
		api.Instr{Op: api.Jump, A: 5, K: 77},
		api.Instr{Op: api.Set, A: -1, K: 1},
		api.Instr{Op: api.Halt, A: 8, B: 9, C: -10},
		api.Instr{Op: api.Jump, A: 1, B: 2, C: 3},
		api.Instr{Op: 28, A: 8, B: 8},
		api.Instr{Op: api.Jump, B: 8, K: 5},
		api.Instr{Op: api.Cas, A: 100, B: 8, C: -100, K: 9},
		api.Instr{Op: api.Jump, A: 6, K: 8},
		api.Instr{Op: api.Some, A: -3, K: 8})
}

func TestBuilderGoes(t *testing.T) { // 4.4
	var b Builder
	b.Go(api.Jump, 0, "later")
	b.At("again")
	b.At("too")
	b.Set(1, 5)
	b.Go(api.Zero, 1, "again")
	b.Go(api.Some, 2, "end")
	b.At("later")
	b.Go(api.Jump, 0, "too")
	b.Go(api.Some, 7, "later")
	b.At("end")
	gives(t, &b,
		api.Instr{Op: api.Jump, K: 4},
		api.Instr{Op: api.Set, A: 1, K: 5},
		api.Instr{Op: api.Zero, A: 1, K: 1},
		api.Instr{Op: api.Some, A: 2, K: 6},
		api.Instr{Op: api.Jump, K: 1},
		api.Instr{Op: api.Some, A: 7, K: 4})
}

func TestBuilderGoesToItself(t *testing.T) { // 4.4
	var b Builder
	b.At("me")
	b.Go(api.Jump, 0, "me")
	gives(t, &b, api.Instr{Op: api.Jump})
}

func TestBuilderWrongNames(t *testing.T) { // 4.4
	for _, name := range []string{"", "1a", "0", "A", "a_b", "a ", "a:", "é", "a\xff", "a\n", strings.Repeat("a", 21), strings.Repeat("a", 20001)} {
		var b Builder
		b.Set(1, 2)
		b.At(name)
		givesNone(t, &b)
		b.At("a")
		givesNone(t, &b)
		b.Go(api.Jump, 0, name)
		givesNone(t, &b)
		var c Builder
		c.Go(api.Jump, 0, name)
		givesNone(t, &c)
		c.At(name)
		givesNone(t, &c)
	}
	for _, name := range []string{"a", "a1", "halt", strings.Repeat("a", 20)} {
		var b Builder
		b.Go(api.Jump, 0, name)
		b.At(name)
		gives(t, &b, api.Instr{Op: api.Jump, K: 1})
	}
}

func TestBuilderTwice(t *testing.T) { // 4.4
	var b Builder
	b.At("a")
	b.At("a")
	givesNone(t, &b)
	var c Builder
	c.At("a")
	c.Set(1, 2)
	c.At("b")
	c.Go(api.Jump, 0, "a")
	gives(t, &c, api.Instr{Op: api.Set, A: 1, K: 2}, api.Instr{Op: api.Jump})
	c.At("a")
	givesNone(t, &c)
	c.At("c")
	c.Do(api.Instr{})
	givesNone(t, &c)
}

// Named at last, what was missing is missed no more.
func TestBuilderNever(t *testing.T) { // 4.4
	var b Builder
	b.At("b")
	b.Go(api.Jump, 0, "b")
	b.Go(api.Some, 1, "a")
	givesNone(t, &b)
	b.At("aa")
	givesNone(t, &b)
	b.Do(api.Instr{})
	b.At("a")
	gives(t, &b, api.Instr{Op: api.Jump}, api.Instr{Op: api.Some, A: 1, K: 3}, api.Instr{})
	b.Go(api.Some, 1, "c")
	givesNone(t, &b)
}

func TestBuilderGoOfAnyKind(t *testing.T) { // 4.4
	for op := -3; op < 35; op++ {
		var b Builder
		b.At("a")
		b.Set(1, 2)
		b.Go(op, 3, "a")
		if jumps := op >= 13 && op <= 15; jumps {
			gives(t, &b, api.Instr{Op: api.Set, A: 1, K: 2}, api.Instr{Op: op, A: 3})
		} else {
			givesNone(t, &b)
			b.At("b")
			b.Go(api.Jump, 0, "b")
			givesNone(t, &b)
		}
	}
	for _, op := range []int{math.MaxInt, math.MinInt, 1<<32 + 13, 256 + 13} {
		var b Builder
		b.At("a")
		b.Go(op, 0, "a")
		givesNone(t, &b)
	}
}

// A builder may hold more than a code may.
func TestBuilderMany(t *testing.T) { // 4.4
	var b Builder
	b.Go(api.Jump, 0, "end")
	for range 4999 {
		b.Do(api.Instr{Op: api.Yield})
	}
	b.At("end")
	l, ok := b.Code()
	if !ok || len(l) != 5000 || l[0].K != 5000 || l[4999].Op != api.Yield {
		t.Errorf("Code = %d instructions, %v", len(l), ok)
	}
}

func TestBuilderAnswersAreNew(t *testing.T) { // 4.4
	var b Builder
	b.Go(api.Jump, 0, "a")
	b.At("a")
	b.Set(1, 2)
	b.Set(3, 4)
	want := []api.Instr{{Op: api.Jump, K: 1}, {Op: api.Set, A: 1, K: 2}, {Op: api.Set, A: 3, K: 4}}
	first, _ := b.Code()
	second, _ := b.Code()
	for at := range first[:cap(first)] {
		first[:cap(first)][at] = api.Instr{Op: 99}
	}
	if !slices.Equal(second, want) {
		t.Errorf("the second answer is %v", second)
	}
	gives(t, &b, want...)
	b.Do(api.Instr{})
	if !slices.Equal(second, want) {
		t.Errorf("the second answer is %v", second)
	}
	gives(t, &b, append(want, api.Instr{})...)
}

func TestBuildersApart(t *testing.T) { // 4.4
	var a, b Builder
	a.At("a")
	b.At("a")
	b.Set(1, 2)
	a.At("b")
	a.Go(api.Jump, 0, "a")
	gives(t, &a, api.Instr{Op: api.Jump})
	gives(t, &b, api.Instr{Op: api.Set, A: 1, K: 2})
	b.Go(api.Jump, 0, "b")
	givesNone(t, &b)
}

// What is told line by line is what is gathered call by call; what places are called changes nothing.
func TestBuilderAndText(t *testing.T) { // 4.4, 4.5
	for _, name := range []string{"spin", "s", "halt", "r4", strings.Repeat("z", 20)} {
		other := "end"
		var b Builder
		b.At(name)
		b.Ask(api.Load, 4, 20)
		b.Go(api.Some, 4, name)
		b.Cas(4, 5, 20)
		b.Go(api.Zero, 4, other)
		b.Go(api.Jump, 0, name)
		b.At(other)
		l, ok := b.Code()
		if !ok {
			t.Fatalf("Code = %v", ok)
		}
		reads(t, strings.NewReplacer("%", name, "$", other).Replace("%:\nload r4 [20]\nsome r4 @%\ncas r4 r5 [20]\nzero r4 @$\njump @%\n$:\n"), l...)
		if s, e := Print(l); s != "load r4 [20]\nsome r4 @0\ncas r4 r5 [20]\nzero r4 @5\njump @0\n" || e != api.OK {
			t.Errorf("Print = %q, %d", s, e)
		}
		for at, i := range l {
			if !isa.Right(i, len(l)) {
				t.Errorf("what stands at %d is %v", at, i)
			}
		}
	}
}
