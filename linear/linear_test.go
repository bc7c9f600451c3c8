package linear_test

import (
	"math"
	"slices"
	"testing"

	"sidings/api"
	"sidings/linear"
)

// handleOf is a handle by sums alone.
func handleOf(slot int, gen int) int {
	return slot + gen*1048576 + 1099511627776
}

var (
	h1 = handleOf(0, 0)
	h2 = handleOf(63, 1000)
	h3 = handleOf(5, 1)
)

func alloc(n int) api.Op                 { return api.Op{Do: 0, N: n} }
func free(h int) api.Op                  { return api.Op{Do: 1, H: h} }
func read(h int, off int) api.Op         { return api.Op{Do: 2, H: h, Off: off} }
func write(h int, off int, b int) api.Op { return api.Op{Do: 3, H: h, Off: off, N: b} }
func pin(h int) api.Op                   { return api.Op{Do: 4, H: h} }
func unpin(h int) api.Op                 { return api.Op{Do: 5, H: h} }

func ask(thread int, o api.Op) api.Event { return api.Event{Thread: thread, Op: o} }

// ok answers a thread by OK, with a number.
func ok(thread int, n int) api.Event {
	return api.Event{Thread: thread, Back: true, Result: api.Result{N: n}}
}

func fail(thread int, err api.Errno) api.Event {
	return api.Event{Thread: thread, Back: true, Result: api.Result{Code: err}}
}

// told is a call in an order, by OK; toldErr is one by an error.
func told(thread int, o api.Op, n int) api.Event {
	return api.Event{Thread: thread, Op: o, Result: api.Result{N: n}}
}

func toldErr(thread int, o api.Op, err api.Errno) api.Event {
	return api.Event{Thread: thread, Op: o, Result: api.Result{Code: err}}
}

// made has thread 3 make objects ahead of all else.
func made(n int, handles ...int) []api.Event {
	var l []api.Event
	for _, h := range handles {
		l = append(l, ask(3, alloc(n)), ok(3, h))
	}
	return l
}

// show tells no more of a long history than its end.
func show(l []api.Event) []api.Event {
	return l[max(0, len(l)-30):]
}

// check holds the three calls of a history against each other, and against what is wanted.
func check(t *testing.T, l []api.Event, want bool) {
	t.Helper()
	before := slices.Clone(l)
	order, found := linear.Order(l)
	if accepts := linear.Accepts(l); accepts != want || found != want {
		t.Errorf("P9.1: Accepts(%v): %v, Order %v, not %v", show(l), accepts, found, want)
	}
	if found && (!isOne(l, order) || !linear.Holds(l, order)) {
		t.Errorf("P9.1: Order(%v): %v is none; Holds %v", show(l), show(order), linear.Holds(l, order))
	}
	for _, e := range order[len(order):cap(order)] {
		if e != (api.Event{}) {
			t.Errorf("R6: behind Order(%v) stands what was tried: %v", show(l), e)
		}
	}
	if !found && len(order) != 0 {
		t.Errorf("P9.1: Order(%v): %v, false", show(l), show(order))
	}
	if !slices.Equal(l, before) {
		t.Errorf("R5: %v was changed to %v", show(before), show(l))
	}
}

// checkCuts has a history that is accepted be cut off at each place.
func checkCuts(t *testing.T, l []api.Event) {
	t.Helper()
	for at := range len(l) + 1 {
		if cut := l[:at]; !linear.Accepts(cut) {
			t.Errorf("P9.2: %v is not accepted, cut off from %v", show(cut), show(l))
		}
	}
}

// checkAccepted is check, of a history and of all that it is cut off to.
func checkAccepted(t *testing.T, l []api.Event) {
	t.Helper()
	check(t, l, true)
	for at := range l {
		check(t, l[:at], true)
	}
	checkCuts(t, l)
}

func TestOneCall(t *testing.T) {
	check(t, nil, true)
	check(t, []api.Event{}, true)
	for _, c := range []struct {
		o    api.Op
		back api.Event
		want bool
	}{
		{alloc(4), ok(0, h1), true},
		{alloc(4), ok(0, h2), true},
		{alloc(4), ok(0, 0), false},
		{alloc(4), ok(0, 7), false},
		{alloc(4), fail(0, api.ErrRoom), true},
		{alloc(4), fail(0, api.ErrSlots), true},
		{alloc(4), fail(0, api.ErrSize), false},
		{alloc(4), fail(0, api.ErrForm), false},
		{alloc(0), fail(0, api.ErrSize), true},
		{alloc(257), fail(0, api.ErrRoom), false},
		{alloc(257), ok(0, h1), false},
		{free(h1), fail(0, api.ErrStale), true},
		{free(h1), ok(0, 0), false},
		{read(h1, 0), fail(0, api.ErrStale), true},
		{read(h1, 0), fail(0, api.ErrRange), false},
		{read(h1, 0), ok(0, 0), false},
		{write(h1, 0, 1), fail(0, api.ErrStale), true},
		{write(h1, 0, 1), ok(0, 0), false},
		{pin(h1), fail(0, api.ErrStale), true},
		{unpin(h1), fail(0, api.ErrNotPinned), false},
		{api.Op{Do: 6}, fail(0, api.ErrArg), true},
		{api.Op{Do: 6}, fail(0, api.ErrStale), false},
		{api.Op{Do: -1, H: h1}, ok(0, 0), false},
	} {
		check(t, []api.Event{ask(0, c.o)}, true)
		check(t, []api.Event{ask(0, c.o), c.back}, c.want)
	}
}

func TestNoHistory(t *testing.T) {
	for _, l := range [][]api.Event{
		{ok(0, h1)},
		{ask(0, alloc(4)), ask(0, alloc(4))},
		{ask(0, alloc(4)), ok(0, h1), ok(0, h1)},
		{ask(0, alloc(4)), ok(1, h1)},
		{ask(4, alloc(4))},
		{ask(-1, alloc(4))},
		{ask(math.MinInt, alloc(4)), ok(math.MinInt, h1)},
		{told(0, alloc(4), h1)},
		{ask(0, alloc(4)), {Back: true, Op: alloc(4), Result: api.Result{N: h1}}},
		{ask(0, alloc(4)), ok(0, h1), told(0, alloc(4), h2)},
	} {
		check(t, l, false)
		for _, order := range [][]api.Event{nil, {}, l, {told(0, alloc(4), h1)}} {
			if linear.Holds(l, order) {
				t.Errorf("P9.1: Holds(%v, %v): true of no history", l, order)
			}
		}
	}
}

func TestExample(t *testing.T) {
	first := append(made(4, h1), ask(0, write(h1, 0, 1)))
	check(t, append(slices.Clone(first), ask(1, read(h1, 0)), ok(1, 1)), true)
	check(t, append(slices.Clone(first), ask(1, read(h1, 0)), ok(1, 0)), true)
	check(t, append(slices.Clone(first), ask(1, read(h1, 0)), ok(1, 2)), false)
	check(t, append(slices.Clone(first), ok(0, 0), ask(1, read(h1, 0)), ok(1, 1)), true)
	check(t, append(slices.Clone(first), ok(0, 0), ask(1, read(h1, 0)), ok(1, 0)), false)
}

// TestOverlap has calls of two threads that overlap: either one may be the first.
func TestOverlap(t *testing.T) {
	m := made(4, h1)
	for _, c := range []struct {
		l    []api.Event
		want bool
	}{
		{[]api.Event{ask(0, write(h1, 0, 1)), ask(1, read(h1, 0)), ok(1, 1), ok(0, 0)}, true},
		{[]api.Event{ask(0, write(h1, 0, 1)), ask(1, read(h1, 0)), ok(0, 0), ok(1, 0)}, true},
		{[]api.Event{ask(0, write(h1, 0, 1)), ask(1, read(h1, 0)), ok(0, 0), ok(1, 2)}, false},
		{[]api.Event{ask(0, write(h1, 0, 1)), ok(0, 0), ask(1, read(h1, 0)), ok(1, 0)}, false},
		{[]api.Event{ask(1, read(h1, 0)), ok(1, 1), ask(0, write(h1, 0, 1)), ok(0, 0)}, false},
		{[]api.Event{ask(1, read(h1, 0)), ask(0, write(h1, 0, 1)), ok(0, 0), ok(1, 1)}, true},
		// Two writes, in both orders, and what is read behind them.
		{[]api.Event{ask(0, write(h1, 0, 1)), ask(1, write(h1, 0, 2)), ok(0, 0), ok(1, 0), ask(2, read(h1, 0)), ok(2, 1)}, true},
		{[]api.Event{ask(0, write(h1, 0, 1)), ask(1, write(h1, 0, 2)), ok(0, 0), ok(1, 0), ask(2, read(h1, 0)), ok(2, 2)}, true},
		{[]api.Event{ask(0, write(h1, 0, 1)), ask(1, write(h1, 0, 2)), ok(0, 0), ok(1, 0), ask(2, read(h1, 0)), ok(2, 0)}, false},
		{[]api.Event{ask(0, write(h1, 0, 1)), ok(0, 0), ask(1, write(h1, 0, 2)), ok(1, 0), ask(2, read(h1, 0)), ok(2, 1)}, false},
		// What one thread read is read behind it.
		{[]api.Event{ask(0, write(h1, 0, 1)), ask(1, read(h1, 0)), ok(1, 1), ask(1, read(h1, 0)), ok(1, 0), ok(0, 0)}, false},
		{[]api.Event{ask(0, write(h1, 0, 1)), ask(1, read(h1, 0)), ok(1, 0), ask(1, read(h1, 0)), ok(1, 1), ok(0, 0)}, true},
		{[]api.Event{ask(0, write(h1, 0, 1)), ask(1, read(h1, 0)), ok(1, 1), ask(2, read(h1, 0)), ok(2, 0), ok(0, 0)}, false},
		{[]api.Event{ask(0, write(h1, 0, 1)), ask(1, read(h1, 0)), ask(2, read(h1, 0)), ok(1, 1), ok(2, 0), ok(0, 0)}, true},
		// Two readers see two writes the other way round.
		{[]api.Event{ask(0, write(h1, 0, 1)), ask(1, write(h1, 1, 1)), ask(2, read(h1, 0)), ok(2, 1), ask(2, read(h1, 1)), ok(2, 0), ask(3, read(h1, 1)), ok(3, 1), ask(3, read(h1, 0)), ok(3, 0)}, false},
		{[]api.Event{ask(0, write(h1, 0, 1)), ask(1, write(h1, 1, 1)), ask(2, read(h1, 0)), ok(2, 1), ask(2, read(h1, 1)), ok(2, 0), ask(3, read(h1, 1)), ok(3, 1), ask(3, read(h1, 0)), ok(3, 1)}, true},
		// A free, and who comes ahead of it.
		{[]api.Event{ask(0, free(h1)), ask(1, free(h1)), ok(0, 0), fail(1, api.ErrStale)}, true},
		{[]api.Event{ask(0, free(h1)), ask(1, free(h1)), fail(0, api.ErrStale), ok(1, 0)}, true},
		{[]api.Event{ask(0, free(h1)), ask(1, free(h1)), ok(0, 0), ok(1, 0)}, false},
		{[]api.Event{ask(0, free(h1)), ok(0, 0), ask(1, free(h1)), fail(1, api.ErrStale)}, true},
		{[]api.Event{ask(0, free(h1)), fail(0, api.ErrStale), ask(1, free(h1)), ok(1, 0)}, false},
		{[]api.Event{ask(0, free(h1)), ask(1, pin(h1)), fail(0, api.ErrPinned), ok(1, 0)}, true},
		{[]api.Event{ask(0, free(h1)), ask(1, pin(h1)), ok(0, 0), ok(1, 0)}, false},
	} {
		l := append(slices.Clone(m), c.l...)
		check(t, l, c.want)
		if exists(l) != c.want {
			t.Errorf("the test's own reckoning of %v: %v", l, !c.want)
		}
		if c.want {
			checkCuts(t, l)
		}
	}
}

// TestNotAnswered has calls that are not answered: another thread's Result needs what they did, or that they did nothing.
func TestNotAnswered(t *testing.T) {
	for _, c := range []struct {
		l    []api.Event
		want bool
	}{
		{[]api.Event{ask(0, alloc(4)), ask(1, read(h1, 3)), ok(1, 0)}, true},
		{[]api.Event{ask(0, alloc(4)), ask(1, read(h1, 4)), fail(1, api.ErrRange)}, true},
		{[]api.Event{ask(0, alloc(4)), ask(1, read(h1, 3)), fail(1, api.ErrStale)}, true},
		{[]api.Event{ask(0, alloc(4)), ask(1, read(h1, 4)), ok(1, 0)}, false},
		{[]api.Event{ask(0, alloc(4)), ask(1, read(h1, 3)), ok(1, 1)}, false},
		{[]api.Event{ask(0, alloc(257)), ask(1, read(h1, 3)), ok(1, 0)}, false},
		{[]api.Event{ask(0, alloc(4)), ask(1, read(7, 3)), ok(1, 0)}, false},
		{[]api.Event{ask(1, read(h1, 3)), ok(1, 0), ask(0, alloc(4))}, false},
		{[]api.Event{ask(1, read(h1, 3)), ask(0, alloc(4)), ok(1, 0)}, true},
		{[]api.Event{ask(0, alloc(4)), ask(1, read(h1, 0)), fail(1, api.ErrStale), ask(1, read(h1, 0)), ok(1, 0)}, true},
		{[]api.Event{ask(0, alloc(4)), ask(1, read(h1, 0)), ok(1, 0), ask(1, read(h1, 0)), fail(1, api.ErrStale)}, false},
		// One Alloc has one handle; two may have two, by their sizes.
		{[]api.Event{ask(0, alloc(4)), ask(1, read(h1, 0)), ok(1, 0), ask(1, read(h2, 0)), ok(1, 0)}, false},
		{[]api.Event{ask(0, alloc(4)), ask(2, alloc(8)), ask(1, read(h1, 0)), ok(1, 0), ask(1, read(h2, 0)), ok(1, 0)}, true},
		{[]api.Event{ask(0, alloc(4)), ask(2, alloc(8)), ask(1, read(h1, 0)), ok(1, 0), ask(1, read(h2, 5)), ok(1, 0)}, true},
		{[]api.Event{ask(0, alloc(4)), ask(2, alloc(8)), ask(1, read(h1, 5)), ok(1, 0), ask(1, read(h2, 0)), ok(1, 0), ask(1, read(h2, 5)), fail(1, api.ErrRange)}, true},
		{[]api.Event{ask(0, alloc(4)), ask(2, alloc(8)), ask(1, read(h1, 5)), ok(1, 0), ask(1, read(h2, 5)), ok(1, 0)}, false},
		{[]api.Event{ask(0, alloc(4)), ask(2, alloc(8)), ask(3, alloc(2)), ask(1, read(h3, 5)), ok(1, 0), ask(1, write(h2, 3, 9)), ok(1, 0), ask(1, free(h1)), ok(1, 0), ask(1, read(h2, 4)), fail(1, api.ErrRange)}, true},
		// A handle that another Alloc was told.
		{[]api.Event{ask(0, alloc(4)), ask(1, read(h1, 3)), ok(1, 0), ask(1, alloc(4)), ok(1, h1)}, false},
		{[]api.Event{ask(1, alloc(4)), ok(1, h1), ask(1, free(h1)), ok(1, 0), ask(0, alloc(4)), ask(1, read(h1, 3)), ok(1, 0)}, false},
		{[]api.Event{ask(1, alloc(2)), ok(1, h1), ask(0, alloc(4)), ask(1, read(h1, 3)), ok(1, 0)}, false},
		// A chain: the free needs the Alloc, and what is stale then the free.
		{[]api.Event{ask(0, alloc(4)), ask(1, read(h1, 0)), ok(1, 0), ask(2, free(h1)), ask(1, read(h1, 0)), fail(1, api.ErrStale)}, true},
		{[]api.Event{ask(0, alloc(4)), ask(2, free(h1)), ask(1, read(h1, 0)), ok(1, 0), ask(1, read(h1, 0)), fail(1, api.ErrStale), ask(1, read(h1, 0)), ok(1, 0)}, false},
		{[]api.Event{ask(0, alloc(4)), ask(2, pin(h1)), ask(1, free(h1)), fail(1, api.ErrPinned)}, true},
		{[]api.Event{ask(0, alloc(4)), ask(2, pin(h1)), ask(3, unpin(h1)), ask(1, free(h1)), fail(1, api.ErrPinned), ask(1, free(h1)), ok(1, 0)}, true},
		{[]api.Event{ask(0, alloc(4)), ask(2, pin(h1)), ask(1, free(h1)), fail(1, api.ErrPinned), ask(1, free(h1)), ok(1, 0)}, false},
		{[]api.Event{ask(0, alloc(4)), ask(2, write(h1, 3, 300)), ask(1, read(h1, 3)), ok(1, 0), ask(1, read(h1, 3)), ok(1, 44)}, true},
		{[]api.Event{ask(0, alloc(4)), ask(2, write(h1, 3, 300)), ask(1, read(h1, 3)), ok(1, 44), ask(1, read(h1, 3)), ok(1, 0)}, false},
		{[]api.Event{ask(0, alloc(4)), ask(2, write(h1, 4, 1)), ask(3, api.Op{Do: 9, H: h1}), ask(1, read(h1, 3)), ok(1, 0)}, true},
	} {
		check(t, c.l, c.want)
		if exists(c.l) != c.want {
			t.Errorf("the test's own reckoning of %v: %v", c.l, !c.want)
		}
		if c.want {
			checkCuts(t, c.l)
		}
	}
}

// TestHolds has one history, whose orders by numbers are known.
func TestHolds(t *testing.T) {
	l := []api.Event{
		ask(0, alloc(4)), ok(0, h1), ask(0, write(h1, 0, 1)), ask(1, write(h1, 0, 2)), ok(0, 0), ask(2, alloc(8)), ask(0, read(h1, 0)), ok(1, 0), ok(0, 1),
	}
	a, w1, w2, r := told(0, alloc(4), h1), told(0, write(h1, 0, 1), 0), told(1, write(h1, 0, 2), 0), told(0, read(h1, 0), 1)
	b := told(2, alloc(8), h2)
	back := r
	back.Back = true
	for i, c := range []struct {
		order []api.Event
		want  bool
	}{
		{[]api.Event{a, w2, w1, r}, true},
		{[]api.Event{a, w1, w2, r}, false}, // 2 is read
		{[]api.Event{a, w1, r, w2}, true},
		{[]api.Event{a, w2, w1, b, r}, true}, // not answered, and told
		{[]api.Event{a, w2, w1, r, b}, true},
		{[]api.Event{a, w2, b, w1, r}, false}, // w1 is Before b
		{[]api.Event{b, a, w2, w1, r}, false},
		{[]api.Event{a, w2, w1, b, b, r}, false}, // told twice
		{[]api.Event{a, w2, w1, r, r}, false},
		{[]api.Event{a, a, w2, w1, r}, false},
		{[]api.Event{a, w2, w2, w1, r}, false},
		{[]api.Event{a, w2, w1}, false}, // left out
		{[]api.Event{a, w1, r}, false},
		{[]api.Event{w2, w1, r}, false},
		{[]api.Event{a}, false},
		{nil, false},
		{[]api.Event{a, w2, r, w1}, false}, // one thread the other way round
		{[]api.Event{w2, a, w1, r}, false}, // a is Before w2
		{[]api.Event{a, w2, w1, told(2, alloc(8), h3), r}, true},
		{[]api.Event{a, w2, w1, told(2, alloc(8), h1), r}, false}, // told already
		{[]api.Event{a, w2, w1, told(2, alloc(8), 0), r}, false},
		{[]api.Event{a, w2, w1, toldErr(2, alloc(8), api.ErrRoom), r}, true},
		{[]api.Event{a, w2, w1, toldErr(2, alloc(8), api.ErrSlots), r}, true},
		{[]api.Event{a, w2, w1, toldErr(2, alloc(8), api.ErrSize), r}, false},
		{[]api.Event{a, w2, w1, told(2, alloc(9), h2), r}, false}, // another op
		{[]api.Event{a, w2, w1, told(1, alloc(8), h2), r}, false}, // another thread
		{[]api.Event{a, w2, w1, told(3, alloc(8), h2), r}, false},
		{[]api.Event{a, w2, w1, told(4, alloc(8), h2), r}, false},
		{[]api.Event{a, w2, w1, told(-1, alloc(8), h2), r}, false},
		{[]api.Event{a, w2, w1, told(math.MinInt, alloc(8), h2), r}, false},
		{[]api.Event{a, w2, w1, told(math.MaxInt, alloc(8), h2), r}, false},
		{[]api.Event{a, w2, w1, told(0, read(h1, 0), 2)}, false}, // another Result
		{[]api.Event{a, w2, w1, toldErr(0, read(h1, 0), api.ErrStale)}, false},
		{[]api.Event{told(0, alloc(4), h2), w2, w1, r}, false},
		{[]api.Event{a, w2, w1, told(0, read(h1, 1), 0)}, false},
		{[]api.Event{a, told(1, write(h1, 0, 258), 0), w1, r}, false},
		{[]api.Event{a, told(0, write(h1, 0, 2), 0), told(1, write(h1, 0, 1), 0), r}, false},
		{[]api.Event{a, w2, w1, back}, false}, // Back
		{[]api.Event{a, w2, w1, r, ok(0, 1)}, false},
		{l, false},
	} {
		if got := linear.Holds(l, c.order); got != c.want {
			t.Errorf("P9.1: case %d: Holds of %v: %v", i, c.order, got)
		}
		if isOne(l, c.order) != c.want {
			t.Errorf("case %d: the test's own reckoning of %v: %v", i, c.order, !c.want)
		}
	}
}

func TestHoldsOfLittle(t *testing.T) {
	one := []api.Event{ask(1, alloc(4))}
	done := append(slices.Clone(one), ok(1, h1))
	for i, c := range []struct {
		l     []api.Event
		order []api.Event
		want  bool
	}{
		{nil, nil, true},
		{[]api.Event{}, []api.Event{}, true},
		{nil, []api.Event{told(0, alloc(4), h1)}, false},
		{nil, []api.Event{{}}, false},
		{one, nil, true},
		{one, []api.Event{told(1, alloc(4), h1)}, true},
		{one, []api.Event{told(1, alloc(4), h2)}, true},
		{one, []api.Event{toldErr(1, alloc(4), api.ErrRoom)}, true},
		{one, []api.Event{toldErr(1, alloc(4), api.ErrStale)}, false},
		{one, []api.Event{told(1, alloc(4), 0)}, false},
		{one, []api.Event{told(0, alloc(4), h1)}, false},
		{one, []api.Event{told(1, alloc(4), h1), told(1, alloc(4), h2)}, false},
		{done, nil, false},
		{done, []api.Event{told(1, alloc(4), h1)}, true},
		{done, []api.Event{told(1, alloc(4), h2)}, false},
		{done, []api.Event{toldErr(1, alloc(4), api.ErrRoom)}, false},
		{done, []api.Event{told(1, alloc(4), h1), told(1, alloc(4), h2)}, false},
		// The map does not accept what the history has.
		{[]api.Event{ask(0, alloc(4)), ok(0, 7)}, []api.Event{told(0, alloc(4), 7)}, false},
		{[]api.Event{ask(0, read(h1, 0)), ok(0, 0)}, []api.Event{told(0, read(h1, 0), 0)}, false},
		{[]api.Event{ask(0, read(h1, 0))}, []api.Event{toldErr(0, read(h1, 0), api.ErrStale)}, true},
		{[]api.Event{ask(0, read(h1, 0))}, []api.Event{toldErr(0, read(h1, 0), api.ErrRange)}, false},
		// Two calls that are alike.
		{[]api.Event{ask(0, read(h1, 0)), fail(0, api.ErrStale), ask(0, read(h1, 0)), fail(0, api.ErrStale)}, []api.Event{toldErr(0, read(h1, 0), api.ErrStale), toldErr(0, read(h1, 0), api.ErrStale)}, true},
		{[]api.Event{ask(0, read(h1, 0)), fail(0, api.ErrStale), ask(0, read(h1, 0)), fail(0, api.ErrStale)}, []api.Event{toldErr(0, read(h1, 0), api.ErrStale)}, false},
		{[]api.Event{ask(0, read(h1, 0)), fail(0, api.ErrStale), ask(0, read(h1, 0))}, []api.Event{toldErr(0, read(h1, 0), api.ErrStale)}, true},
	} {
		if got := linear.Holds(c.l, c.order); got != c.want || isOne(c.l, c.order) != c.want {
			t.Errorf("P9.1: case %d: Holds(%v, %v): %v; the test's own reckoning %v", i, c.l, c.order, got, isOne(c.l, c.order))
		}
	}
}
