package clock

import (
	"math"
	"testing"
)

func TestExample(t *testing.T) { // 12.1, 12.2, and the document's example
	a, b := Clock{1}, Clock{0, 1}
	stands(t, a, b, false, false, true)
	stands(t, b, a, false, false, true)
	makes(t, a, b, Clock{1, 1}, Clock{})
}

func TestTickByHand(t *testing.T) { // 12.1
	c := Clock{0, 1, 2, math.MaxInt32, 1 << 31, math.MaxUint32 - 1, math.MaxUint32, 9}
	ticks(t, c, 0, Clock{1, 1, 2, math.MaxInt32, 1 << 31, math.MaxUint32 - 1, math.MaxUint32, 9})
	ticks(t, c, 1, Clock{0, 2, 2, math.MaxInt32, 1 << 31, math.MaxUint32 - 1, math.MaxUint32, 9})
	ticks(t, c, 3, Clock{0, 1, 2, 1 << 31, 1 << 31, math.MaxUint32 - 1, math.MaxUint32, 9})
	ticks(t, c, 4, Clock{0, 1, 2, math.MaxInt32, 1<<31 + 1, math.MaxUint32 - 1, math.MaxUint32, 9})
	ticks(t, c, 5, Clock{0, 1, 2, math.MaxInt32, 1 << 31, math.MaxUint32, math.MaxUint32, 9})
	ticks(t, c, 6, Clock{0, 1, 2, math.MaxInt32, 1 << 31, math.MaxUint32 - 1, 0, 9})
	ticks(t, c, 7, Clock{0, 1, 2, math.MaxInt32, 1 << 31, math.MaxUint32 - 1, math.MaxUint32, 10})
}

// What goes round at one thread is carried on to no other one.
func TestTickOfTheGreatest(t *testing.T) { // 12.1
	var full Clock
	for who := range full {
		full[who] = math.MaxUint32
	}
	for who := range full {
		want := full
		want[who] = 0
		ticks(t, full, who, want)
		want[who] = 1
		ticks(t, full.Tick(who), who, want)
	}
}

func TestTickOfNoThread(t *testing.T) { // 12.1
	for _, who := range strangers {
		ticks(t, Clock{}, who, Clock{})
		ticks(t, Clock{1, 2, 3, 4, 5, 6, 7, 8}, who, Clock{1, 2, 3, 4, 5, 6, 7, 8})
		ticks(t, Clock{math.MaxUint32, 7: math.MaxUint32}, who, Clock{math.MaxUint32, 7: math.MaxUint32})
	}
}

func TestJoinAndMeetByHand(t *testing.T) { // 12.1
	makes(t, Clock{}, Clock{}, Clock{}, Clock{})
	makes(t, Clock{1, 2, 3, 4, 5, 6, 7, 8}, Clock{8, 7, 6, 5, 4, 3, 2, 1}, Clock{8, 7, 6, 5, 5, 6, 7, 8}, Clock{1, 2, 3, 4, 4, 3, 2, 1})
	makes(t, Clock{1, 2}, Clock{0, 3}, Clock{1, 3}, Clock{0, 2})
	makes(t, Clock{7: 4}, Clock{4}, Clock{4, 7: 4}, Clock{})
	makes(t, Clock{math.MaxUint32, 1 << 31}, Clock{1, math.MaxInt32}, Clock{math.MaxUint32, 1 << 31}, Clock{1, math.MaxInt32})
}

func TestOrderByHand(t *testing.T) { // 12.2
	for _, c := range []struct {
		name                string
		a, b                Clock
		knows, ahead, apart bool
	}{
		{"two that know nothing", Clock{}, Clock{}, true, false, false},
		{"two that are the same", Clock{1, 2, 3, 4, 5, 6, 7, 8}, Clock{1, 2, 3, 4, 5, 6, 7, 8}, true, false, false},
		{"one that knows nothing, and one that knows little", Clock{}, Clock{7: 1}, false, true, false},
		{"one that knows little, and one that knows nothing", Clock{7: 1}, Clock{}, true, false, false},
		{"one that knows less of one thread", Clock{3, 3, 3}, Clock{3, 4, 3}, false, true, false},
		{"one that knows more of one thread", Clock{3, 4, 3}, Clock{3, 3, 3}, true, false, false},
		{"one that knows less of all", Clock{1, 1, 1, 1, 1, 1, 1, 1}, Clock{2, 2, 2, 2, 2, 2, 2, 2}, false, true, false},
		{"one that knows more of the first, less of the last", Clock{5, 7: 1}, Clock{4, 7: 2}, false, false, true},
		{"one that knows less of the first, more of the last", Clock{4, 7: 2}, Clock{5, 7: 1}, false, false, true},
		{"less by much, more by little", Clock{0, 0, 0, 1}, Clock{9, 9, 9, 0, 9, 9, 9, 9}, false, false, true},
		{"the same sum", Clock{2, 1}, Clock{1, 2}, false, false, true},
		{"half of all numbers apart", Clock{1 << 31}, Clock{math.MaxInt32}, true, false, false},
		{"the greatest, and 0 that comes behind it", Clock{math.MaxUint32}, Clock{math.MaxUint32}.Tick(0), true, false, false},
	} {
		t.Run(c.name, func(t *testing.T) { stands(t, c.a, c.b, c.knows, c.ahead, c.apart) })
	}
}

// What is asked of a clock leaves it, and the other one, as they were.
func TestAskedClocksStay(t *testing.T) { // rule 4
	a, b := Clock{1, 2, 3, 4, 5, 6, 7, 8}, Clock{8, 7, 6, 5, 4, 3, 2, 1}
	was, other := a, b
	a.Tick(3)
	a.Join(b)
	a.Meet(b)
	a.Knows(b)
	a.Ahead(b)
	a.Apart(b)
	if a != was || b != other {
		t.Errorf("they are %v and %v now", a, b)
	}
}
