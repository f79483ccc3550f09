package trace

import (
	"math"
	"slices"
	"strconv"
	"strings"
	"testing"

	"deadlatch/api"
)

// strangers are numbers of no thread.
var strangers = []int{-1, -2, -8, 8, 9, 15, 16, 256, 1 << 32, 1<<32 + 1, -1 << 32, math.MaxInt32, math.MinInt32, math.MaxInt, math.MinInt}

// letters name, in the tests' texts, what an event is of: the first is that of the kind 1.
const letters = "lsfwnomakrehx"

// befell reads events: the thread, a letter for the kind, and a number: K of a mark, else the address. A swap that was no swap is c. Each event's Value is its place and 100.
func befell(t *testing.T, text string) []api.Event {
	t.Helper()
	var l []api.Event
	for at, word := range strings.Fields(text) {
		i := strings.IndexAny(word, letters+"c")
		if i < 1 {
			t.Fatalf("%q is no event", word)
		}
		who, e := strconv.Atoi(word[:i])
		n, f := strconv.ParseUint(word[i+1:], 10, 32)
		if e != nil || f != nil {
			t.Fatalf("%q is no event", word)
		}
		l = append(l, event(who, word[i], n, uint32(at+100)))
	}
	return l
}

func event(who int, letter byte, n uint64, value uint32) api.Event {
	x := api.Event{Kind: strings.IndexByte(letters, letter) + 1, Who: who, Value: value, Old: value + 1}
	switch letter {
	case 'm':
		x.K = uint32(n)
		return x
	case 'w':
		x.Ok = true
	case 'c':
		x.Kind = 4
	}
	x.Addr = int(n)
	return x
}

// own answers, by the document's words, at which places a thread's events stand.
func own(l []api.Event, who int) []int {
	var places []int
	for at := range l {
		if l[at].Who == who {
			places = append(places, at)
		}
	}
	return places
}

// told answers the calls by the document's words: of each mark that may begin one, it looks where it ends.
func told(l []api.Event) []Call {
	var calls []Call
	for at, x := range l {
		if x.Kind == 7 && x.K&1 == 0 && x.Who >= 0 && x.Who <= 7 {
			calls = append(calls, toldFrom(l, at))
		}
	}
	return calls
}

// toldFrom answers the call that begins at a place.
func toldFrom(l []api.Event, from int) Call {
	k := l[from].K
	c := Call{Site: int(k >> 1), Who: l[from].Who, Began: from, Ended: -1}
	for at := from + 1; at < len(l); at++ {
		x := l[at]
		switch {
		case x.Who != c.Who, x.Kind == 3:
		case x.Kind != 7:
			c.Inner = append(c.Inner, at)
		case x.K&1 == 0:
			return c
		case x.K == k+1:
			c.Ended, c.Result = at, x.Value
			return c
		}
	}
	return c
}

func same(a, b Call) bool {
	return a.Site == b.Site && a.Who == b.Who && a.Began == b.Began && a.Ended == b.Ended && a.Result == b.Result && slices.Equal(a.Inner, b.Inner)
}

// calls holds the calls of events against those that they have to be, and what holds of them.
func calls(t *testing.T, l []api.Event, want ...Call) {
	t.Helper()
	got := Calls(l)
	if !slices.EqualFunc(got, want, same) {
		t.Errorf("of %+v\n\tCalls = %+v; want\n\t%+v", l, got, want)
	}
	apart(t, got)
}

// apart holds that calls stand in the order in which they began, and that those of one thread don't overlap.
func apart(t *testing.T, l []Call) {
	t.Helper()
	last, behind := -1, map[int]int{} // behind: of each thread, the last place that its calls have
	for _, c := range l {
		if c.Began <= last {
			t.Errorf("a call that began at %d behind one that began at %d", c.Began, last)
		}
		last = c.Began
		places := append([]int{c.Began}, c.Inner...)
		if c.Ended >= 0 {
			places = append(places, c.Ended)
		}
		at, ok := behind[c.Who]
		if ok && c.Began <= at {
			t.Errorf("%+v begins ahead of the place %d, that the one ahead of it has", c, at)
		}
		for i := 1; i < len(places); i++ {
			if places[i] <= places[i-1] {
				t.Errorf("%+v: its places don't rise", c)
			}
		}
		behind[c.Who] = places[len(places)-1]
	}
}

// goes holds a thread's events against those that stand at places.
func goes(t *testing.T, l []api.Event, who int, want ...int) {
	t.Helper()
	var got []int
	for at, x := range Of(l, who) {
		if at < 0 || at >= len(l) || x != l[at] {
			t.Fatalf("Of(%d) tells %d, %+v, of %+v", who, at, x, l)
		}
		got = append(got, at)
	}
	if !slices.Equal(got, want) {
		t.Errorf("Of(%d) goes through the places %v of %+v; want %v", who, got, l, want)
	}
}

func outs(t *testing.T, l []api.Event, who int, want ...uint32) {
	t.Helper()
	if got := Outs(l, who); !slices.Equal(got, want) {
		t.Errorf("Outs(%d) = %v, of %+v; want %v", who, got, l, want)
	}
}

func values(t *testing.T, l []api.Event, addr int, want ...uint32) {
	t.Helper()
	if got := Values(l, addr); !slices.Equal(got, want) {
		t.Errorf("Values(%d) = %v, of %+v; want %v", addr, got, l, want)
	}
}

// agrees holds all that may be asked of events against the document's words.
func agrees(t *testing.T, l []api.Event, who, addr int) {
	t.Helper()
	calls(t, l, told(l)...)
	places := own(l, who)
	goes(t, l, who, places...)
	var out, got []uint32
	for _, at := range places {
		if l[at].Kind == 6 {
			out = append(out, l[at].Value)
		}
	}
	for _, x := range l {
		if x.Addr == addr && (x.Kind == 3 || x.Kind == 4 && x.Ok) {
			got = append(got, x.Value)
		}
	}
	outs(t, l, who, out...)
	values(t, l, addr, got...)
}

// fill puts one thing everywhere into a list, spare room included.
func fill[T any](l []T, x T) {
	l = l[:cap(l)]
	for at := range l {
		l[at] = x
	}
}
