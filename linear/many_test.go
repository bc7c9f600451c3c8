package linear_test

import (
	"slices"
	"testing"

	"sidings/api"
	"sidings/event"
	"sidings/linear"
	"sidings/model"
)

// choices are few events, of which short histories are made that need, and refuse, each other's calls.
func choices() [][]api.Event {
	return [][]api.Event{
		{ask(0, alloc(4)), ok(0, h1), ask(1, read(h1, 0)), ok(1, 0), ask(2, write(h1, 0, 1)), ok(2, 0), ok(1, 1), fail(1, api.ErrStale)},
		{ask(0, alloc(4)), ok(0, h1), ask(1, free(h1)), ok(1, 0), fail(1, api.ErrPinned), ask(2, pin(h1)), ok(2, 0), fail(2, api.ErrStale)},
		{ask(0, alloc(1)), ask(1, alloc(2)), ok(0, h1), ok(1, h1), ok(1, h2), ask(2, read(h1, 1)), ok(2, 0), fail(2, api.ErrRange), ask(2, read(h2, 0))},
		{ask(0, alloc(4)), ask(0, write(h1, 0, 1)), ok(0, h1), ok(0, 0), ask(1, write(h1, 0, 2)), ok(1, 0), ask(2, read(h1, 0)), ok(2, 1), ok(2, 2)},
	}
}

// eachHistory goes through all histories of up to so many events of a choice.
func eachHistory(choice []api.Event, l []api.Event, more int, do func(l []api.Event)) {
	if event.Check(l) != api.OK {
		return
	}
	do(l)
	if more == 0 {
		return
	}
	for _, e := range choice {
		eachHistory(choice, append(slices.Clone(l), e), more-1, do)
	}
}

func TestAllShortHistories(t *testing.T) {
	for i, choice := range choices() {
		accepted, refused := 0, 0
		eachHistory(choice, nil, 6, func(l []api.Event) {
			want := exists(l)
			check(t, l, want)
			if want {
				accepted++
			} else {
				refused++
			}
		})
		if accepted == 0 || refused == 0 {
			t.Errorf("choice %d: %d accepted, %d refused", i, accepted, refused)
		}
	}
}

// TestCutOffShort has no reckoning of its own: what is accepted is accepted without its last event.
func TestCutOffShort(t *testing.T) {
	for _, choice := range choices() {
		eachHistory(choice, nil, 6, func(l []api.Event) {
			if len(l) > 0 && linear.Accepts(l) && !linear.Accepts(l[:len(l)-1]) {
				t.Errorf("P9.2: %v is accepted, and cut off it is not", l)
			}
		})
	}
}

// TestAllShortOrders holds Holds against the words, of all orders of a few events that are near a history.
func TestAllShortOrders(t *testing.T) {
	near := []api.Event{told(0, alloc(4), h1), toldErr(0, alloc(4), api.ErrRoom), told(1, read(h1, 0), 0), told(1, read(h1, 0), 1), told(2, write(h1, 0, 1), 0), ok(1, 0)}
	var orders [][]api.Event
	var grow func(order []api.Event)
	grow = func(order []api.Event) {
		orders = append(orders, order)
		for _, e := range near {
			if len(order) < 4 {
				grow(append(slices.Clone(order), e))
			}
		}
	}
	grow(nil)
	held := 0
	eachHistory(choices()[0], nil, 5, func(l []api.Event) {
		for _, order := range orders {
			got := linear.Holds(l, order)
			if got != isOne(l, order) {
				t.Errorf("P9.1: Holds(%v, %v): %v", l, order, got)
			}
			if got {
				held++
			}
		}
	})
	if held == 0 {
		t.Error("no order was one")
	}
}

// dice turns over by a rule, so that a walk is the same each time.
type dice int

func (d *dice) roll(n int) int {
	*d = (*d*1103515245 + 12345) % (1 << 31)
	return int(*d>>12) % n
}

// op is one of few handles and places, so that calls are in each other's way: most ask for a slot's newest handle.
func (d *dice) op(newest []int) api.Op {
	slot := d.roll(len(newest))
	h := handleOf(slot, max(0, newest[slot]-d.roll(4)/3))
	switch d.roll(10) {
	case 0, 1, 2:
		return alloc(1 + d.roll(3))
	case 3:
		return free(h)
	case 4, 5:
		return read(h, d.roll(3))
	case 6, 7:
		return write(h, d.roll(3), d.roll(4))
	case 8:
		return pin(h)
	}
	return unpin(h)
}

// result is how a map answers an op that is done at once; of an Alloc it is a handle that is newer still, or no room.
func (d *dice) result(m *model.Map, o api.Op, newest []int) api.Result {
	own, has := m.Answer(o)
	if has {
		return own
	}
	slot := d.roll(len(newest) + 1)
	if slot == len(newest) {
		return api.Result{Code: api.ErrRoom}
	}
	newest[slot]++
	return api.Result{N: handleOf(slot, newest[slot])}
}

// caller is a thread of a walk: what it asked, and what it came to.
type caller struct {
	op     api.Op
	asked  bool
	done   bool
	result api.Result
}

// walk has threads ask, do at one moment, and answer, in an order by dice: such a history has an order.
func walk(start int, threads int, events int) []api.Event {
	d, m := dice(start*7919+13), model.New()
	newest := []int{-1, -1, -1}
	callers := make([]caller, threads)
	var l []api.Event
	for len(l) < events {
		n := d.roll(threads)
		c := &callers[n]
		switch {
		case !c.asked:
			*c = caller{op: d.op(newest), asked: true}
			l = append(l, ask(n, c.op))
		case !c.done:
			c.result, c.done = d.result(m, c.op, newest), true
			m.Try(c.op, c.result)
		default:
			l = append(l, api.Event{Thread: n, Back: true, Result: c.result})
			*c = caller{}
		}
	}
	return l
}

func TestWalksAreAccepted(t *testing.T) {
	for start := range 150 {
		checkAccepted(t, walk(start, 1+start%4, 24))
	}
	for start := range 20 {
		l := walk(start, 4, 300)
		order, found := linear.Order(l)
		if !found || !linear.Holds(l, order) || !mapAccepts(order) {
			t.Errorf("P9.1: walk %d of 300 events: %v, Holds %v", start, found, linear.Holds(l, order))
		}
		checkCuts(t, l)
	}
}

// TestWrongWalks has walks of which one answer was turned.
func TestWrongWalks(t *testing.T) {
	accepted, refused := 0, 0
	for start := range 400 {
		l := walk(start, 2+start%3, 13)
		d := dice(start)
		at := d.roll(len(l))
		if !l[at].Back {
			continue
		}
		l[at].Result = []api.Result{{}, {N: 1}, {N: h1}, {N: handleOf(1, 0)}, {Code: api.ErrStale}, {Code: api.ErrPinned}, {Code: api.ErrRange}, {Code: api.ErrNotPinned}}[d.roll(8)]
		want := exists(l)
		check(t, l, want)
		if want {
			accepted++
		} else {
			refused++
		}
	}
	if accepted == 0 || refused == 0 {
		t.Errorf("%d walks accepted, %d refused", accepted, refused)
	}
}

// TestLongAndWrong has a fault at the end of much that has many orders: they end.
func TestLongAndWrong(t *testing.T) {
	for start := range 10 {
		l := walk(start, 3, 300)
		// No object of a walk has so many bytes.
		l = append(l, ask(3, read(handleOf(0, 0), 200)), ok(3, 0))
		check(t, l, false)
	}
	l := made(4, h1)
	for i := range 60 {
		l = append(l, ask(0, write(h1, 0, i)), ask(1, write(h1, 0, i+100)), ask(2, read(h1, 0)), ok(1, 0), ok(0, 0), ok(2, i+100))
	}
	check(t, l, true)
	l[len(l)-1].Result.N = 99
	check(t, l, false)
}

// TestOneLongThread has calls one behind the other, that have one order.
func TestOneLongThread(t *testing.T) {
	var l []api.Event
	var want []api.Event
	for i := range 3000 {
		h := handleOf(i%64, i/64)
		l = append(l, ask(i%4, alloc(8)), ok(i%4, h), ask(i%4, free(h)), ok(i%4, 0))
		want = append(want, told(i%4, alloc(8), h), told(i%4, free(h), 0))
	}
	if order, found := linear.Order(l); !found || !slices.Equal(order, want) {
		t.Errorf("P9.1: %v, %d calls told of %d", found, len(order), len(want))
	}
	if !linear.Holds(l, want) {
		t.Error("P9.1: Holds of the one order: false")
	}
	want[4000], want[4001] = want[4001], want[4000]
	if linear.Holds(l, want) {
		t.Error("P9.1: Holds with two of one thread the other way round")
	}
}

// TestSameAgain has answers of two calls be the same, and share nothing.
func TestSameAgain(t *testing.T) {
	for start := range 20 {
		l := walk(start, 4, 40)
		first, _ := linear.Order(l)
		kept := slices.Clone(first)
		second, _ := linear.Order(l)
		clear(first[:cap(first)])
		if third, _ := linear.Order(l); !slices.Equal(second, kept) || !slices.Equal(third, kept) {
			t.Errorf("R6: Order of walk %d: %v, then %v, then %v", start, kept, second, third)
		}
		check(t, l, true)
	}
}
