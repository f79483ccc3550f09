package kern

import (
	"math"
	"slices"
	"testing"

	"deadlatch/api"
)

// told is a queue as the document tells of it: of each thread whether it sleeps, where, and how many fell asleep ahead of it, from the beginning on. No list is kept: order is worked out of these numbers.
type told struct {
	sleeps  [8]bool
	addr    [8]int
	fell    [8]int
	fellYet int
}

func (m *told) sleep(who, addr int) api.Errno {
	if who < 0 || who > 7 {
		return api.ErrArg
	}
	if m.sleeps[who] {
		return api.ErrTwice
	}
	m.sleeps[who], m.addr[who], m.fell[who] = true, addr, m.fellYet
	m.fellYet++
	return api.OK
}

func (m *told) asleep(who int) (int, bool) {
	if who < 0 || who > 7 || !m.sleeps[who] {
		return 0, false
	}
	return m.addr[who], true
}

// order answers who sleep, who fell asleep first first.
func (m *told) order() []int {
	var l []int
	for who := range 8 {
		if m.sleeps[who] {
			l = append(l, who)
		}
	}
	slices.SortFunc(l, func(a, b int) int { return m.fell[a] - m.fell[b] })
	return l
}

func (m *told) wake(addr int, n uint32) []int {
	var l []int
	for _, who := range m.order() {
		if m.addr[who] == addr && uint64(len(l)) < uint64(n) {
			l = append(l, who)
		}
	}
	for _, who := range l {
		m.sleeps[who] = false
	}
	return l
}

func (m *told) rouse(who int) bool {
	_, ok := m.asleep(who)
	if ok {
		m.sleeps[who] = false
	}
	return ok
}

func (m *told) all() []Sleeper {
	var l []Sleeper
	for _, who := range m.order() {
		l = append(l, Sleeper{who, m.addr[who]})
	}
	return l
}

// addrs are what threads sleep at: ordinary addresses, the edges of a memory, and what no memory has.
var addrs = []int{0, 1, 5, api.MaxMem - 1, api.MaxMem, -1, -5, 1 << 32, 1<<32 + 5, -1 << 32, math.MaxInt32, math.MinInt32, math.MaxInt, math.MinInt}

// strangers are numbers that no thread has.
var strangers = []int{-1, 8, 9, 16, -8, -2, 256, 264, 1 << 32, 1<<32 + 1, 1<<32 + 7, -1 << 32, math.MaxInt32, math.MinInt32, math.MaxInt, math.MinInt}

// is holds all that a queue tells against what it has to be.
func is(t *testing.T, k *Kern, m *told) {
	t.Helper()
	if l, want := k.All(), m.all(); !slices.Equal(l, want) {
		t.Errorf("All = %v; want %v", l, want)
	}
	for who := -2; who < 11; who++ {
		a, ok := k.Asleep(who)
		if want, there := m.asleep(who); a != want || ok != there {
			t.Errorf("Asleep(%d) = %d, %v; want %d, %v", who, a, ok, want, there)
		}
	}
}

// has holds what a queue tells against a list.
func has(t *testing.T, k *Kern, want ...Sleeper) {
	t.Helper()
	if l := k.All(); !slices.Equal(l, want) {
		t.Errorf("All = %v; want %v", l, want)
	}
	where := map[int]int{}
	for _, s := range want {
		where[s.Who] = s.Addr
	}
	for who := -2; who < 11; who++ {
		a, ok := k.Asleep(who)
		if addr, there := where[who]; a != addr || ok != there {
			t.Errorf("Asleep(%d) = %d, %v; want %d, %v", who, a, ok, addr, there)
		}
	}
}

// of answers a queue of these, each of whom may fall asleep.
func of(t *testing.T, l ...Sleeper) *Kern {
	t.Helper()
	k := &Kern{}
	for _, s := range l {
		if e := k.Sleep(s.Who, s.Addr); e != api.OK {
			t.Fatalf("Sleep(%d, %d) = %d", s.Who, s.Addr, e)
		}
	}
	return k
}

func wakes(t *testing.T, k *Kern, addr int, n uint32, want ...int) {
	t.Helper()
	if l := k.Wake(addr, n); !slices.Equal(l, want) {
		t.Errorf("Wake(%d, %d) = %v; want %v", addr, n, l, want)
	}
}
