package kern

import (
	"math"
	"slices"
	"testing"
)

// orders calls each with all orders of l.
func orders(l []int, from int, each func([]int)) {
	if from == len(l) {
		each(l)
		return
	}
	for at := from; at < len(l); at++ {
		l[from], l[at] = l[at], l[from]
		orders(l, from+1, each)
		l[from], l[at] = l[at], l[from]
	}
}

// Whatever the order in which they fell asleep, they are woken in it, one by one or all at a time.
func TestFirstAsleepFirstWoken(t *testing.T) { // 6.3
	orders([]int{0, 1, 2, 3, 4, 5, 6, 7}, 0, func(l []int) {
		if t.Failed() {
			return
		}
		var one, all Kern
		for _, who := range l {
			one.Sleep(who, 5)
			all.Sleep(who, 5)
		}
		for _, who := range l {
			wakes(t, &one, 5, 1, who)
		}
		wakes(t, &all, 5, math.MaxUint32, l...)
	})
}

// Who falls asleep again has lost his turn; who is roused takes nobody else's.
func TestTurnsGoRound(t *testing.T) { // 6.3
	for n := 1; n <= 8; n++ {
		var k Kern
		for who := range n {
			k.Sleep(who, -3)
		}
		for turn := range 40 {
			wakes(t, &k, -3, 1, turn%n)
			k.Sleep(turn%n, -3)
		}
		k.Rouse(n / 2)
		k.Sleep(n/2, -3)
		var want []int
		for who := range n {
			if at := (who + 40) % n; at != n/2 {
				want = append(want, at)
			}
		}
		wakes(t, &k, -3, 9, append(want, n/2)...)
	}
}

// do does what a number tells to a queue and to what it has to be, and holds the answers against each other.
func do(t *testing.T, k *Kern, m *told, what, who, addr int, n uint32) {
	switch what {
	case 0:
		if e, want := k.Sleep(who, addr), m.sleep(who, addr); e != want {
			t.Errorf("Sleep(%d, %d) = %d; want %d", who, addr, e, want)
		}
	case 1:
		if l, want := k.Wake(addr, n), m.wake(addr, n); !slices.Equal(l, want) {
			t.Errorf("Wake(%d, %d) = %v; want %v", addr, n, l, want)
		}
	case 2:
		if ok, want := k.Rouse(who), m.rouse(who); ok != want {
			t.Errorf("Rouse(%d) = %v; want %v", who, ok, want)
		}
	}
	is(t, k, m)
}

// What is done is begun anew for each way, since a queue is told by nothing but what it has been through.
func TestAllWaysOfFiveSteps(t *testing.T) { // 6.1, 6.2, 6.3
	type step struct {
		what, who, addr int
		n               uint32
	}
	var steps []step
	for _, who := range []int{0, 3, 7} {
		steps = append(steps, step{0, who, 4, 0}, step{0, who, -4, 0}, step{2, who, 0, 0})
	}
	steps = append(steps, step{1, 0, 4, 1}, step{1, 0, 4, 2}, step{1, 0, -4, math.MaxUint32})
	ways := 1
	for range 5 {
		ways *= len(steps)
	}
	for way := range ways {
		k, m := &Kern{}, &told{}
		for left, n := way, 0; n < 5; left, n = left/len(steps), n+1 {
			s := steps[left%len(steps)]
			do(t, k, m, s.what, s.who, s.addr, s.n)
		}
		if t.Failed() {
			return
		}
	}
}

// FuzzKern does what bytes tell, three a step, to a queue and to what it has to be.
func FuzzKern(f *testing.F) { // 6.1, 6.2, 6.3
	f.Add([]byte{0, 1, 2, 0, 2, 2, 1, 1, 2})
	f.Add([]byte{0, 1, 2, 0, 1, 3, 2, 1, 0, 2, 1, 0, 0, 9, 0})
	f.Add(slices.Repeat([]byte{0, 1, 5, 0, 7, 5, 0, 3, 4, 1, 1, 5, 0, 0, 5, 2, 7, 0}, 9))
	f.Fuzz(func(t *testing.T, does []byte) {
		k, m := &Kern{}, &told{}
		for l := does[:min(len(does), 900)]; len(l) >= 3; l = l[3:] {
			who, addr := int(l[1]%8), addrs[int(l[2])%len(addrs)]
			if l[1] >= 240 {
				who = strangers[l[1]-240]
			}
			n := uint32(l[1] % 10)
			if l[1] >= 200 {
				n = -n
			}
			do(t, k, m, int(l[0]%3), who, addr, n)
		}
	})
}
