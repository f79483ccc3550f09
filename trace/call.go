package trace

import (
	"cmp"
	"slices"

	"deadlatch/api"
)

// noEnd stands where a call would have ended.
const noEnd = -1

// Call is a call that was begun: its site, where in the events it begins and ends (-1: it hasn't), and its thread's events between.
type Call struct {
	Site, Who    int
	Began, Ended int
	Result       uint32
	Inner        []int
}

// Calls answers all calls, in the order in which they began.
func Calls(l []api.Event) []Call {
	var all []Call
	for t := range api.MaxThreads {
		all = append(all, callsOf(l, t)...)
	}
	slices.SortFunc(all, func(a, b Call) int { return cmp.Compare(a.Began, b.Began) })
	return all
}

// callsOf answers a thread's calls. None but the last one that was begun may still go on.
func callsOf(l []api.Event, t int) []Call {
	var calls []Call
	for at, x := range Of(l, t) {
		if begins(x) {
			calls = append(calls, Call{Site: site(x), Who: t, Began: at, Ended: noEnd})
		} else if n := len(calls); n > 0 && calls[n-1].Ended == noEnd {
			calls[n-1].hears(at, x)
		}
	}
	return calls
}

// begins tells whether an event begins a call.
func begins(x api.Event) bool { return x.Kind == api.EvMark && x.K%2 == 0 }

// site answers the site that a mark is of.
func site(x api.Event) int { return int(x.K / 2) }

// hears takes in an event of the call's thread, while the call goes on, that begins none.
func (c *Call) hears(at int, x api.Event) {
	switch x.Kind {
	case api.EvFlush:
		// It tells of what the thread did some time ago, maybe ahead of the call.
	case api.EvMark:
		if site(x) == c.Site {
			c.Ended, c.Result = at, x.Value
		}
	default:
		c.Inner = append(c.Inner, at)
	}
}
