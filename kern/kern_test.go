package kern

import (
	"math"
	"slices"
	"testing"

	"deadlatch/api"
)

func TestZeroKern(t *testing.T) { // 6.1, 6.2
	var k Kern
	has(t, &k)
	for who := range 8 {
		if k.Rouse(who) {
			t.Errorf("Rouse(%d) = true, where nobody sleeps", who)
		}
	}
	for _, addr := range addrs {
		for _, n := range []uint32{0, 1, 8, math.MaxUint32} {
			wakes(t, &k, addr, n)
		}
	}
	has(t, &k)
	if e := k.Sleep(0, 0); e != api.OK {
		t.Errorf("Sleep(0, 0) = %d", e)
	}
	has(t, &k, Sleeper{0, 0})
}

func TestSleepByHand(t *testing.T) { // 6.1
	k := of(t, Sleeper{7, 5})
	has(t, k, Sleeper{7, 5})
	for _, s := range []Sleeper{{0, 6}, {3, 5}, {1, -4}} {
		if e := k.Sleep(s.Who, s.Addr); e != api.OK {
			t.Errorf("Sleep(%d, %d) = %d", s.Who, s.Addr, e)
		}
	}
	has(t, k, Sleeper{7, 5}, Sleeper{0, 6}, Sleeper{3, 5}, Sleeper{1, -4})
}

func TestSleepOfNoThread(t *testing.T) { // 6.1
	for _, k := range []*Kern{{}, of(t, Sleeper{1, 5}), of(t, Sleeper{7, 5}, Sleeper{0, 6})} {
		kept := k.All()
		for _, who := range strangers {
			for _, addr := range addrs {
				if e := k.Sleep(who, addr); e != api.ErrArg {
					t.Errorf("Sleep(%d, %d) = %d", who, addr, e)
				}
			}
		}
		has(t, k, kept...)
	}
}

func TestSleepTwice(t *testing.T) { // 6.1
	for who := range 8 {
		other := (who + 3) % 8
		for _, l := range [][]Sleeper{{{who, 5}}, {{other, 5}, {who, 5}}, {{who, 5}, {other, 6}}} {
			k := of(t, l...)
			for _, addr := range append([]int{5, 6}, addrs...) {
				if e := k.Sleep(who, addr); e != api.ErrTwice {
					t.Errorf("Sleep(%d, %d) = %d, of one who sleeps", who, addr, e)
				}
				has(t, k, l...)
			}
		}
	}
}

// There is room for all threads, each at any address.
func TestAllSleep(t *testing.T) { // 6.1
	for from := range addrs {
		k, m := &Kern{}, &told{}
		for n := range 8 {
			who, addr := (n*5+from)%8, addrs[(from+n)%len(addrs)]
			if e := k.Sleep(who, addr); e != api.OK {
				t.Errorf("Sleep(%d, %d) = %d", who, addr, e)
			}
			m.sleep(who, addr)
			is(t, k, m)
		}
		for who := range 8 {
			if e := k.Sleep(who, 3); e != api.ErrTwice {
				t.Errorf("Sleep(%d, 3) = %d, where all sleep", who, e)
			}
		}
		if e := k.Sleep(8, 3); e != api.ErrArg {
			t.Errorf("Sleep(8, 3) = %d, where all sleep", e)
		}
		is(t, k, m)
	}
}

// Who was woken may fall asleep again, and is behind all others then.
func TestSleepAgain(t *testing.T) { // 6.1
	for who := range 3 {
		k := of(t, Sleeper{0, 5}, Sleeper{1, 6}, Sleeper{2, 7})
		left := slices.DeleteFunc(k.All(), func(s Sleeper) bool { return s.Who == who })
		for _, awake := range []func() bool{
			func() bool { return k.Rouse(who) },
			func() bool { return len(k.Wake(9, 1)) == 1 },
		} {
			if !awake() {
				t.Fatalf("%d isn't woken", who)
			}
			has(t, k, left...)
			if e := k.Sleep(who, 9); e != api.OK {
				t.Errorf("Sleep(%d, 9) = %d, of one who was woken", who, e)
			}
			has(t, k, append(slices.Clone(left), Sleeper{who, 9})...)
		}
	}
}

func TestAsleep(t *testing.T) { // 6.1
	for _, addr := range addrs {
		k := of(t, Sleeper{0, addr}, Sleeper{7, 3}, Sleeper{4, addr})
		for who, want := range map[int]int{0: addr, 7: 3, 4: addr} {
			if a, ok := k.Asleep(who); a != want || !ok {
				t.Errorf("Asleep(%d) = %d, %v; want %d, true", who, a, ok, want)
			}
		}
		k.Wake(addr, 1)
		k.Rouse(7)
		for _, who := range append([]int{0, 7, 1, 6}, strangers...) {
			if a, ok := k.Asleep(who); a != 0 || ok {
				t.Errorf("Asleep(%d) = %d, %v, of one who doesn't sleep", who, a, ok)
			}
		}
		has(t, k, Sleeper{4, addr})
	}
}

func TestExample(t *testing.T) { // 6.2, and the document's example
	k := of(t, Sleeper{1, 5}, Sleeper{2, 5})
	wakes(t, k, 5, 1, 1)
	has(t, k, Sleeper{2, 5})
}

func TestWakeByHand(t *testing.T) { // 6.2
	l := []Sleeper{{6, 5}, {2, 4}, {0, 5}, {7, -5}, {3, 5}, {1, 4}}
	wakes(t, of(t, l...), 5, 0)
	wakes(t, of(t, l...), 5, 1, 6)
	wakes(t, of(t, l...), 5, 2, 6, 0)
	wakes(t, of(t, l...), 5, 3, 6, 0, 3)
	wakes(t, of(t, l...), 5, 4, 6, 0, 3)
	wakes(t, of(t, l...), 5, math.MaxUint32, 6, 0, 3)
	wakes(t, of(t, l...), -5, math.MaxUint32, 7)
	wakes(t, of(t, l...), 6, math.MaxUint32)
	wakes(t, of(t, l...), 1<<32+5, 1)

	k := of(t, l...)
	wakes(t, k, 5, 2, 6, 0)
	has(t, k, Sleeper{2, 4}, Sleeper{7, -5}, Sleeper{3, 5}, Sleeper{1, 4})
	wakes(t, k, 4, 2, 2, 1)
	has(t, k, Sleeper{7, -5}, Sleeper{3, 5})
	wakes(t, k, 4, 2)
	wakes(t, k, 5, 0)
	has(t, k, Sleeper{7, -5}, Sleeper{3, 5})
	wakes(t, k, -5, 1, 7)
	wakes(t, k, 5, 1<<31, 3)
	has(t, k)
}

// Each way for all eight to sleep at one of two addresses, woken by each number that may matter.
func TestWakeWithOthersInBetween(t *testing.T) { // 6.2
	numbers := []uint32{0, 1, 2, 3, 4, 5, 6, 7, 8, 9, 256, 257, 1 << 16, 1<<16 + 1, 1 << 31, 1<<31 + 1, math.MaxUint32 - 1, math.MaxUint32}
	for here := range 1 << 8 {
		for _, n := range numbers {
			k, m := &Kern{}, &told{}
			for at := range 8 {
				addr := -1 - here>>at&1
				k.Sleep((at*3+1)%8, addr)
				m.sleep((at*3+1)%8, addr)
			}
			wakes(t, k, -2, n, m.wake(-2, n)...)
			is(t, k, m)
		}
	}
}

func TestWakeWhereNobodySleeps(t *testing.T) { // 6.2
	for _, at := range addrs {
		k := of(t, Sleeper{2, at}, Sleeper{0, at})
		for _, addr := range addrs {
			if addr == at {
				continue
			}
			wakes(t, k, addr, 1)
			wakes(t, k, addr, math.MaxUint32)
		}
		has(t, k, Sleeper{2, at}, Sleeper{0, at})
		wakes(t, k, at, 3, 2, 0)
	}
}

func TestRouse(t *testing.T) { // 6.2
	l := []Sleeper{{4, 5}, {0, 5}, {7, -6}, {2, 5}}
	for at, s := range l {
		k := of(t, l...)
		if !k.Rouse(s.Who) {
			t.Errorf("Rouse(%d) = false", s.Who)
		}
		left := slices.Delete(slices.Clone(l), at, at+1)
		has(t, k, left...)
		if k.Rouse(s.Who) {
			t.Errorf("Rouse(%d) = true, of one who was roused", s.Who)
		}
		has(t, k, left...)
	}
}

func TestRouseOfOneWhoDoesNotSleep(t *testing.T) { // 6.2
	l := []Sleeper{{4, 5}, {0, 1}, {7, -6}}
	k := of(t, l...)
	for _, who := range append([]int{1, 2, 3, 5, 6}, strangers...) {
		if k.Rouse(who) {
			t.Errorf("Rouse(%d) = true", who)
		}
		has(t, k, l...)
	}
	wakes(t, k, 5, 1, 4)
	if k.Rouse(4) {
		t.Errorf("Rouse(4) = true, of one who was woken")
	}
	has(t, k, l[1:]...)
}

func TestAllIsNewMemory(t *testing.T) { // 6.1, and rule 4
	for n := range 9 {
		var l []Sleeper
		for who := range n {
			l = append(l, Sleeper{7 - who, who})
		}
		k := of(t, l...)
		first, second := k.All(), k.All()
		first = first[:cap(first)]
		for at := range first {
			first[at] = Sleeper{1, 99}
		}
		if !slices.Equal(second, l) {
			t.Errorf("two lists share memory: %v", second)
		}
		has(t, k, l...)
		k.Wake(0, 1)
		k.Rouse(3)
		k.Sleep(3, 77)
		if !slices.Equal(second, l) {
			t.Errorf("a list that was handed out changed: %v", second)
		}
	}
}

func TestWakeAnswersNewMemory(t *testing.T) { // 6.2, and rule 4
	l := []Sleeper{{4, 5}, {0, 6}, {7, 5}, {2, 5}, {3, 6}, {1, 5}}
	for n := range uint32(6) {
		k := of(t, l...)
		first := k.Wake(5, n)
		left := k.All()
		second := k.Wake(6, 9)
		first = first[:cap(first)]
		for at := range first {
			first[at] = 99
		}
		if !slices.Equal(second, []int{0, 3}) {
			t.Errorf("two lists share memory: %v", second)
		}
		has(t, k, slices.DeleteFunc(left, func(s Sleeper) bool { return s.Addr == 6 })...)
		for at := range second {
			k.Sleep(at, 5)
		}
		if !slices.Equal(second, []int{0, 3}) {
			t.Errorf("a list that was handed out changed: %v", second)
		}
	}
}

// No more is kept than is needed: of who was woken nothing is left.
func TestWhoWasWokenIsNotKept(t *testing.T) {
	k := of(t, Sleeper{4, 5}, Sleeper{1, 6}, Sleeper{7, 5}, Sleeper{2, 5})
	k.Wake(5, 2)
	k.Rouse(1)
	if *k != *of(t, Sleeper{2, 5}) {
		t.Errorf("more is kept than one who sleeps: %v", *k)
	}
}
