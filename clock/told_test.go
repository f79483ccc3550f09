package clock

import (
	"math"
	"testing"
)

// strangers are numbers of no thread.
var strangers = []int{-1, -2, -8, 8, 9, 15, 16, 256, 1 << 32, 1<<32 + 1, -1 << 32, math.MaxInt32, math.MinInt32, math.MaxInt, math.MinInt}

// edges are how much of a thread may be known: what a signed number would take for less than 0 is among them.
var edges = []uint32{0, 1, 2, 255, 256, 65535, 65536, math.MaxInt32, 1 << 31, 1<<31 + 1, math.MaxUint32 - 1, math.MaxUint32}

// ticked answers, by the document's words, a clock with one more for a thread.
func ticked(c Clock, who int) Clock {
	for t, n := range c {
		if t == who && n == math.MaxUint32 {
			c[t] = 0
		} else if t == who {
			c[t] = n + 1
		}
	}
	return c
}

// both answers, by the document's words, what Join and Meet are to be.
func both(c, o Clock) (join, meet Clock) {
	for t := range 8 {
		if int64(c[t]) < int64(o[t]) {
			join[t], meet[t] = o[t], c[t]
		} else {
			join[t], meet[t] = c[t], o[t]
		}
	}
	return join, meet
}

// order answers, by the document's words, of how many threads a clock has less than another one, and of how many more.
func order(c, o Clock) (less, more int) {
	for t := range 8 {
		switch {
		case int64(c[t]) < int64(o[t]):
			less++
		case int64(c[t]) > int64(o[t]):
			more++
		}
	}
	return less, more
}

func ticks(t *testing.T, c Clock, who int, want Clock) {
	t.Helper()
	was := c
	if got := c.Tick(who); got != want {
		t.Errorf("%v.Tick(%d) = %v; want %v", c, who, got, want)
	}
	if c != was {
		t.Errorf("%v.Tick(%d) leaves %v behind", was, who, c)
	}
}

func makes(t *testing.T, c, o, join, meet Clock) {
	t.Helper()
	if got := c.Join(o); got != join {
		t.Errorf("%v.Join(%v) = %v; want %v", c, o, got, join)
	}
	if got := c.Meet(o); got != meet {
		t.Errorf("%v.Meet(%v) = %v; want %v", c, o, got, meet)
	}
}

func stands(t *testing.T, c, o Clock, knows, ahead, apart bool) {
	t.Helper()
	if got := c.Knows(o); got != knows {
		t.Errorf("%v.Knows(%v) = %v", c, o, got)
	}
	if got := c.Ahead(o); got != ahead {
		t.Errorf("%v.Ahead(%v) = %v", c, o, got)
	}
	if got := c.Apart(o); got != apart {
		t.Errorf("%v.Apart(%v) = %v", c, o, got)
	}
}

// agrees holds all that is told of two clocks against the document's words.
func agrees(t *testing.T, c, o Clock) {
	t.Helper()
	join, meet := both(c, o)
	makes(t, c, o, join, meet)
	less, more := order(c, o)
	stands(t, c, o, less == 0, less > 0 && more == 0, less > 0 && more > 0)
}
