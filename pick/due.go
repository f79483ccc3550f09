package pick

import (
	"container/heap"

	"deadlatch/api"
)

// due is a pick, and by when it is due. The window is left out of by, in all of them alike: with a great one it would be more than an int holds.
type due struct {
	pick api.Pick
	by   int
}

// dues is a heap of what is due, what is due first in front.
type dues []due

// dueAtFirst answers what is due when nothing is picked yet.
func dueAtFirst(threads int) dues {
	var d dues
	for who := range threads {
		heap.Push(&d, due{api.Pick{Kind: api.Step, Who: who}, -2 * who})
		heap.Push(&d, due{api.Pick{Kind: api.Flush, Who: who}, -2*who - 1})
	}
	return d
}

// putOff says anew by when a pick is due, if it is one that is due at all.
func (d *dues) putOff(x api.Pick, by int) {
	for place, y := range *d {
		if y.pick == x {
			heap.Remove(d, place)
			heap.Push(d, due{x, by})
			return
		}
	}
}

// Len answers how many are due.
func (d dues) Len() int { return len(d) }

// Less tells whether the one at i is due ahead of the one at j.
func (d dues) Less(i, j int) bool { return d[i].by < d[j].by }

// Swap lets two change places.
func (d dues) Swap(i, j int) { d[i], d[j] = d[j], d[i] }

// Push sets one behind all others.
func (d *dues) Push(x any) { *d = append(*d, x.(due)) }

// Pop takes the last one away.
func (d *dues) Pop() any {
	last := len(*d) - 1
	x := (*d)[last]
	*d = (*d)[:last]
	return x
}
