package clock

import (
	"encoding/binary"
	"testing"
)

// small answers the clock that a number tells: so many threads with a digit each, of so many kinds.
func small(n, kinds, threads, first int) Clock {
	var c Clock
	for t := range threads {
		c[first+t] = uint32(n % kinds)
		n /= kinds
	}
	return c
}

// Of each thread alone, at each two edges, all is as the document says, whatever the others have in common.
func TestEachThreadAtTheEdges(t *testing.T) { // 12.1, 12.2
	for who := range 8 {
		for _, x := range edges {
			for _, y := range edges {
				for _, rest := range edges {
					var a Clock
					for k := range a {
						a[k] = rest
					}
					b := a
					a[who], b[who] = x, y
					agrees(t, a, b)
					ticks(t, a, who, ticked(a, who))
					ticks(t, a, (who+1)%8, ticked(a, (who+1)%8))
				}
			}
		}
	}
}

// All clocks that know one or nothing of each thread.
func TestAllClocksOfOnes(t *testing.T) { // 12.1, 12.2
	for n := range 256 {
		for k := range 256 {
			agrees(t, small(n, 2, 8, 0), small(k, 2, 8, 0))
		}
		if t.Failed() {
			t.FailNow()
		}
	}
}

func TestJustOneIsSo(t *testing.T) { // 12.3
	for first := range 6 {
		for n := range 64 {
			for k := range 64 {
				a, b := small(n, 4, 3, first), small(k, 4, 3, first)
				so := 0
				for _, x := range []bool{a == b, a.Ahead(b), b.Ahead(a), a.Apart(b)} {
					if x {
						so++
					}
				}
				if so != 1 {
					t.Fatalf("of %v and %v %d are so", a, b, so)
				}
			}
		}
	}
}

// Join knows both, and whatever knows both knows Join; Meet is known by both, and knows whatever both know.
func TestTheLeastAndTheGreatest(t *testing.T) { // 12.1, 12.3
	for first := range 6 {
		for n := range 27 {
			for k := range 27 {
				a, b := small(n, 3, 3, first), small(k, 3, 3, first)
				join, meet := a.Join(b), a.Meet(b)
				if !join.Knows(a) || !join.Knows(b) || !a.Knows(meet) || !b.Knows(meet) {
					t.Fatalf("%v and %v: %v, %v", a, b, join, meet)
				}
				for m := range 27 {
					c := small(m, 3, 3, first)
					if c.Knows(a) && c.Knows(b) && !c.Knows(join) {
						t.Fatalf("%v knows %v and %v, but not %v", c, a, b, join)
					}
					if a.Knows(c) && b.Knows(c) && !meet.Knows(c) {
						t.Fatalf("%v and %v know %v, but %v doesn't", a, b, c, meet)
					}
				}
			}
		}
	}
}

// What is known is known further on: who knows one who knows a third one knows that one.
func TestKnownFurtherOn(t *testing.T) { // 12.2
	for n := range 27 {
		for k := range 27 {
			for m := range 27 {
				a, b, c := small(n, 3, 3, 5), small(k, 3, 3, 5), small(m, 3, 3, 5)
				if a.Knows(b) && b.Knows(c) && !a.Knows(c) {
					t.Fatalf("%v knows %v, that knows %v", a, b, c)
				}
			}
		}
	}
}

// A clock is ahead of what it ticks to, as long as the number doesn't go round.
func TestTicksGoOn(t *testing.T) { // 12.1, 12.2
	var c Clock
	for n := range 1000 {
		next := c.Tick(n * 5 % 8)
		stands(t, c, next, false, true, false)
		stands(t, next, c, true, false, false)
		c = next
	}
	if c != (Clock{125, 125, 125, 125, 125, 125, 125, 125}) {
		t.Errorf("a thousand ticks: %v", c)
	}
}

// FuzzClock makes two clocks of bytes, and holds what is told of them against the document's words.
func FuzzClock(f *testing.F) { // 12.1, 12.2, 12.3
	f.Add([]byte("\x01\x00\x00\x00"), []byte("\x00\x00\x00\x00\x01"), 0)
	f.Add([]byte("\xff\xff\xff\xff\x00\x00\x00\x80"), []byte("\xff\xff\xff\xff\xff\xff\xff\x7f"), 8)
	f.Fuzz(func(t *testing.T, x, y []byte, who int) {
		a, b := read(x), read(y)
		agrees(t, a, b)
		agrees(t, b, a)
		agrees(t, a, a)
		ticks(t, a, who, ticked(a, who))
		ticks(t, a, who&7, ticked(a, who&7))
	})
}

// read answers the clock that bytes tell, four of them for a thread; what isn't there is 0.
func read(b []byte) Clock {
	var c Clock
	b = append(b[:len(b):len(b)], make([]byte, 32)...)
	for t := range c {
		c[t] = binary.LittleEndian.Uint32(b[4*t:])
	}
	return c
}
