package linear_test

import (
	"slices"

	"sidings/api"
	"sidings/event"
	"sidings/model"
)

// mayTell goes by the words of chapter 9 of what an event tells.
func mayTell(e api.Event, c event.Call) bool {
	if e.Back || e.Thread != c.Thread || e.Op != c.Op {
		return false
	}
	return !c.Done || e.Result == c.Result
}

// isOne goes by the words of chapter 9: it tries each way to say which event tells which call.
func isOne(l []api.Event, order []api.Event) bool {
	calls, err := event.Calls(l)
	if err != api.OK || !mapAccepts(order) {
		return false
	}
	return assign(calls, order, nil)
}

// assign has which tell, by the places of an order, the calls that are told there; it tries each call for the next place.
func assign(calls []event.Call, order []api.Event, which []int) bool {
	if len(which) == len(order) {
		return isComplete(calls, which) && isInOrder(calls, which)
	}
	for i, c := range calls {
		if !slices.Contains(which, i) && mayTell(order[len(which)], c) && assign(calls, order, append(slices.Clone(which), i)) {
			return true
		}
	}
	return false
}

func isComplete(calls []event.Call, which []int) bool {
	for i, c := range calls {
		if c.Done && !slices.Contains(which, i) {
			return false
		}
	}
	return true
}

// isInOrder has each pair of calls that are told held against each other.
func isInOrder(calls []event.Call, which []int) bool {
	for i, first := range which {
		for _, second := range which[i+1:] {
			a, b := calls[first], calls[second]
			if event.Before(b, a) || a.Thread == b.Thread && a.From > b.From {
				return false
			}
		}
	}
	return true
}

func mapAccepts(order []api.Event) bool {
	m := model.New()
	for _, e := range order {
		if !m.Try(e.Op, e.Result) {
			return false
		}
	}
	return true
}

// exists tries all orders of all calls, those that are not answered by each Result that is near.
func exists(l []api.Event) bool {
	calls, err := event.Calls(l)
	if err != api.OK {
		return false
	}
	return tryAll(calls, nearResults(l), nil, model.New())
}

func tryAll(calls []event.Call, near []api.Result, which []int, m *model.Map) bool {
	if isComplete(calls, which) {
		return true
	}
	for i, c := range calls {
		more := append(slices.Clone(which), i)
		if slices.Contains(which, i) || !isInOrder(calls, more) {
			continue
		}
		results := near
		if c.Done {
			results = []api.Result{c.Result}
		}
		for _, r := range results {
			after := m.Copy()
			if after.Try(c.Op, r) && tryAll(calls, near, more, after) {
				return true
			}
		}
	}
	return false
}

// nearResults are all errors, and all numbers that the history has, with a handle that it has not.
func nearResults(l []api.Event) []api.Result {
	numbers := map[int]int{0: 0, handleOf(60, 600): 0}
	for _, e := range l {
		numbers[e.Op.H], numbers[e.Op.N], numbers[e.Result.N] = 0, 0, 0
	}
	var near []api.Result
	for n := range numbers {
		near = append(near, api.Result{N: n})
	}
	for code := api.ErrArg; code <= api.ErrLine; code++ {
		near = append(near, api.Result{Code: code})
	}
	return near
}
