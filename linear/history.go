package linear

import (
	"slices"

	"sidings/api"
	"sidings/event"
)

// history is the calls of each thread, in the order in which they were asked.
type history struct {
	calls [api.MaxThreads][]event.Call
	// guesses are what an Alloc that is not answered may have been told: what else it may have been told nobody asks for.
	guesses []int
}

// counts are, by threads, how many calls are told. As a thread's calls are told in their order, that says which ones.
type counts [api.MaxThreads]int

func historyOf(l []api.Event) (*history, bool) {
	calls, err := event.Calls(l)
	if err != api.OK {
		return nil, false
	}
	h := &history{guesses: guessesOf(l, calls)}
	for _, c := range calls {
		h.calls[c.Thread] = append(h.calls[c.Thread], c)
	}
	return h, true
}

// guessesOf leaves out what answered Allocs were told: the map takes no handle from two of them.
func guessesOf(l []api.Event, calls []event.Call) []int {
	told := map[int]struct{}{}
	for _, c := range calls {
		if c.Done && c.Op.Do == api.Alloc && c.Result.Code == api.OK {
			told[c.Result.N] = struct{}{}
		}
	}
	return slices.DeleteFunc(event.Handles(l), func(n int) bool {
		_, ok := told[n]
		return ok
	})
}

// behind tells the counts behind a call that is told.
func (at counts) behind(e api.Event) counts {
	at[e.Thread]++
	return at
}

// next tells the first call of a thread that is not told, and whether there is one.
func (h *history) next(at counts, thread int) (event.Call, bool) {
	own := h.calls[thread]
	if at[thread] == len(own) {
		return event.Call{}, false
	}
	return own[at[thread]], true
}

// isReady tells whether no call is Before c that is not told. Each thread's next one alone is asked, as its later ones
// were answered later still.
func (h *history) isReady(at counts, c event.Call) bool {
	for thread := range h.calls {
		first, more := h.next(at, thread)
		if more && event.Before(first, c) {
			return false
		}
	}
	return true
}

// tells tells whether an event tells its thread's next call, and that one may be told now.
func (h *history) tells(at counts, e api.Event) bool {
	if e.Back || e.Thread < 0 || e.Thread >= len(h.calls) {
		return false
	}
	c, more := h.next(at, e.Thread)
	if !more || e.Op != c.Op || c.Done && e.Result != c.Result {
		return false
	}
	return h.isReady(at, c)
}

// isWhole tells whether all calls that are Done are told.
func (h *history) isWhole(at counts) bool {
	for thread := range h.calls {
		if c, more := h.next(at, thread); more && c.Done {
			return false
		}
	}
	return true
}
