package event_test

import (
	"math"
	"slices"
	"testing"

	"sidings/api"
	"sidings/event"
)

func ask(thread int, o api.Op) api.Event {
	return api.Event{Thread: thread, Op: o}
}

func back(thread int, r api.Result) api.Event {
	return api.Event{Thread: thread, Back: true, Result: r}
}

// sampleOp and sampleResult have something else in each field, and for each n.
func sampleOp(n int) api.Op { return api.Op{Do: n + 1, H: n + 1000, Off: n - 3000, N: n + 5000} }

func sampleResult(n int) api.Result { return api.Result{Code: api.Errno(n - 2), N: n + 7000} }

// isHistory goes by the words of chapter 8 thread by thread: its events alone, the even ones ask, the odd ones answer.
func isHistory(l []api.Event) bool {
	for _, e := range l {
		if e.Thread != 0 && e.Thread != 1 && e.Thread != 2 && e.Thread != 3 {
			return false
		}
		if e.Back && (e.Op.Do != 0 || e.Op.H != 0 || e.Op.Off != 0 || e.Op.N != 0) {
			return false
		}
		if !e.Back && (e.Result.Code != 0 || e.Result.N != 0) {
			return false
		}
	}
	for thread := range 4 {
		for i, at := range placesOf(l, thread) {
			if l[at].Back != (i%2 == 1) {
				return false
			}
		}
	}
	return true
}

// placesOf are the places of a thread's events.
func placesOf(l []api.Event, thread int) []int {
	var places []int
	for at, e := range l {
		if e.Thread == thread {
			places = append(places, at)
		}
	}
	return places
}

// callsOf tells, of a history, for each event that asks its call: the thread's next event, if there is one, is the answer.
func callsOf(l []api.Event) []event.Call {
	var calls []event.Call
	for at, e := range l {
		if e.Back {
			continue
		}
		c := event.Call{Thread: e.Thread, Op: e.Op, From: at, To: len(l)}
		places := placesOf(l, e.Thread)
		if i := slices.Index(places, at) + 1; i < len(places) {
			c.Done, c.To, c.Result = true, places[i], l[places[i]].Result
		}
		calls = append(calls, c)
	}
	return calls
}

// checkList holds Check and Calls of any events against the words.
func checkList(t *testing.T, l []api.Event) {
	t.Helper()
	before := slices.Clone(l)
	calls, err := event.Calls(l)
	if e := event.Check(l); e != err {
		t.Errorf("P8.1: %v: Check %d, Calls %d", l, e, err)
	}
	switch {
	case isHistory(l) && (err != api.OK || !slices.Equal(calls, callsOf(l))):
		t.Errorf("P8.1: Calls of %v: %v, %d, not %v, OK", l, calls, err, callsOf(l))
	case !isHistory(l) && (err != api.ErrForm || len(calls) != 0):
		t.Errorf("P8.1: Calls of %v: %v, %d, not nothing, ErrForm", l, calls, err)
	}
	if !slices.Equal(l, before) {
		t.Errorf("R5: Calls changed %v to %v", before, l)
	}
}

func TestCheckEdges(t *testing.T) {
	o, r := sampleOp(1), sampleResult(1)
	for i, c := range []struct {
		l    []api.Event
		want api.Errno
	}{
		{nil, api.OK},
		{[]api.Event{}, api.OK},
		{[]api.Event{ask(0, o)}, api.OK},
		{[]api.Event{ask(3, o)}, api.OK},
		{[]api.Event{ask(0, api.Op{})}, api.OK},
		{[]api.Event{ask(0, o), back(0, r)}, api.OK},
		{[]api.Event{ask(0, api.Op{}), back(0, api.Result{})}, api.OK},
		{[]api.Event{ask(0, o), back(0, r), ask(0, o)}, api.OK},
		{[]api.Event{ask(0, o), ask(1, o), ask(2, o), ask(3, o), back(3, r), back(1, r)}, api.OK},
		{[]api.Event{ask(0, o), ask(0, o)}, api.ErrForm},
		{[]api.Event{back(0, r)}, api.ErrForm},
		{[]api.Event{ask(0, o), back(0, r), back(0, r)}, api.ErrForm},
		{[]api.Event{ask(0, o), back(1, r)}, api.ErrForm},
		{[]api.Event{back(0, r), ask(0, o)}, api.ErrForm},
		{[]api.Event{ask(0, o), ask(1, o), ask(0, o)}, api.ErrForm},
		{[]api.Event{ask(4, o)}, api.ErrForm},
		{[]api.Event{ask(-1, o)}, api.ErrForm},
		{[]api.Event{ask(4, o), back(4, r)}, api.ErrForm},
		{[]api.Event{ask(0, o), back(4, r)}, api.ErrForm},
		{[]api.Event{ask(math.MinInt, o)}, api.ErrForm},
		{[]api.Event{ask(math.MaxInt, o)}, api.ErrForm},
		{[]api.Event{ask(1<<32, o)}, api.ErrForm},
		{[]api.Event{{Op: o, Result: api.Result{Code: api.ErrArg}}}, api.ErrForm},
		{[]api.Event{{Op: o, Result: api.Result{N: 1}}}, api.ErrForm},
		{[]api.Event{{Op: o, Result: api.Result{N: -1}}}, api.ErrForm},
		{[]api.Event{{Op: o, Result: api.Result{Code: -1}}}, api.ErrForm},
		{[]api.Event{ask(0, o), {Back: true, Op: api.Op{Do: 1}}}, api.ErrForm},
		{[]api.Event{ask(0, o), {Back: true, Op: api.Op{H: 1}}}, api.ErrForm},
		{[]api.Event{ask(0, o), {Back: true, Op: api.Op{Off: -1}}}, api.ErrForm},
		{[]api.Event{ask(0, o), {Back: true, Op: api.Op{N: 1}}}, api.ErrForm},
		{[]api.Event{ask(0, o), {Back: true, Op: o, Result: r}}, api.ErrForm},
	} {
		if err := event.Check(c.l); err != c.want {
			t.Errorf("P8.1: case %d: Check(%v): %d, not %d", i, c.l, err, c.want)
		}
		checkList(t, c.l)
	}
}

// TestFaultsAtAnyPlace puts an event that is none of a history's to each place of one that is long.
func TestFaultsAtAnyPlace(t *testing.T) {
	var l []api.Event
	for n := range 4 {
		l = append(l, ask(n, sampleOp(n)), ask((n+1)%4, sampleOp(n+9)), back(n, sampleResult(n)), back((n+1)%4, sampleResult(n+9)))
	}
	checkList(t, l)
	wrong := []api.Event{ask(4, api.Op{}), ask(-1, api.Op{}), back(4, api.Result{}), {Result: api.Result{N: 1}}, {Back: true, Op: api.Op{Do: 5}}}
	for at := range l {
		for _, e := range wrong {
			faulty := slices.Insert(slices.Clone(l), at, e)
			checkList(t, faulty)
			if err := event.Check(faulty); err != api.ErrForm {
				t.Errorf("P8.1: Check(%v): %d, not ErrForm", faulty, err)
			}
		}
		checkList(t, slices.Delete(slices.Clone(l), at, at+1))
		checkList(t, l[:at])
	}
}

func TestCallsByNumber(t *testing.T) {
	l := []api.Event{
		ask(2, sampleOp(1)),
		ask(0, sampleOp(2)),
		back(2, sampleResult(1)),
		ask(2, sampleOp(3)),
		ask(3, sampleOp(4)),
		back(0, sampleResult(2)),
		back(3, sampleResult(4)),
	}
	want := []event.Call{
		{Thread: 2, Op: sampleOp(1), Result: sampleResult(1), Done: true, From: 0, To: 2},
		{Thread: 0, Op: sampleOp(2), Result: sampleResult(2), Done: true, From: 1, To: 5},
		{Thread: 2, Op: sampleOp(3), From: 3, To: 7},
		{Thread: 3, Op: sampleOp(4), Result: sampleResult(4), Done: true, From: 4, To: 6},
	}
	if calls, err := event.Calls(l); err != api.OK || !slices.Equal(calls, want) {
		t.Errorf("P8.1: %v, %d, not %v", calls, err, want)
	}
	first := []api.Event{ask(0, sampleOp(1)), ask(1, sampleOp(2)), back(0, sampleResult(1))}
	calls, err := event.Calls(first)
	if err != api.OK || len(calls) != 2 || !calls[0].Done || calls[1].Done {
		t.Errorf("P8.1: ask, ask of another thread, answer: %v, %d", calls, err)
	}
	if calls, err := event.Calls(nil); err != api.OK || len(calls) != 0 {
		t.Errorf("P8.1: Calls of no events: %v, %d", calls, err)
	}
}

// TestAllShortLists goes through all lists of up to five events of a small choice, those that are no event of a history among them.
func TestAllShortLists(t *testing.T) {
	choice := []api.Event{
		ask(0, sampleOp(1)), back(0, sampleResult(2)), ask(1, sampleOp(3)), back(1, sampleResult(4)), ask(3, sampleOp(5)), back(3, sampleResult(6)), ask(4, sampleOp(7)), {Back: true, Op: api.Op{N: 1}},
	}
	var l []api.Event
	var all func(more int)
	all = func(more int) {
		checkList(t, l)
		if more == 0 {
			return
		}
		for _, e := range choice {
			l = append(l, e)
			all(more - 1)
			l = l[:len(l)-1]
		}
	}
	all(5)
}

// longHistory has all threads ask, and be answered, in an order that a rule turns over.
func longHistory(rule int, n int) []api.Event {
	var l []api.Event
	var asked [4]bool
	for i := range n {
		rule = (rule*1103515245 + 12345) % (1 << 31)
		thread := rule >> 16 % 4
		if asked[thread] {
			l = append(l, back(thread, sampleResult(i)))
		} else {
			l = append(l, ask(thread, sampleOp(i)))
		}
		asked[thread] = !asked[thread]
	}
	return l
}

func TestLongHistories(t *testing.T) {
	for rule := range 20 {
		checkList(t, longHistory(rule, 300))
	}
}

func TestBefore(t *testing.T) {
	for i, c := range []struct {
		a, b event.Call
		want bool
	}{
		{event.Call{Done: true, From: 1, To: 4}, event.Call{From: 5}, true},
		{event.Call{Done: true, From: 1, To: 5}, event.Call{From: 5}, false},
		{event.Call{Done: true, From: 1, To: 6}, event.Call{From: 5}, false},
		{event.Call{Done: false, From: 1, To: 4}, event.Call{From: 5}, false},
		{event.Call{Done: false, From: 1, To: 0}, event.Call{From: 5, Done: true, To: 9}, false},
		{event.Call{Done: true, From: 9, To: 4}, event.Call{From: 5, To: 0}, true},
		{event.Call{Done: true, To: -1}, event.Call{}, true},
		{event.Call{Done: true}, event.Call{}, false},
		{event.Call{}, event.Call{}, false},
		{event.Call{Done: true, To: math.MinInt}, event.Call{From: math.MaxInt}, true},
		{event.Call{Done: true, To: math.MaxInt}, event.Call{From: math.MinInt}, false},
		{event.Call{Done: true, To: math.MaxInt - 1, Thread: 3, Op: sampleOp(1)}, event.Call{From: math.MaxInt, Thread: 2, Result: sampleResult(3)}, true},
	} {
		if got := event.Before(c.a, c.b); got != c.want {
			t.Errorf("P8.2: case %d: Before(%v, %v): %v", i, c.a, c.b, got)
		}
	}
}

func TestHandles(t *testing.T) {
	for i, c := range []struct {
		l    []api.Event
		want []int
	}{
		{nil, nil},
		{[]api.Event{}, nil},
		{[]api.Event{ask(0, api.Op{H: 5})}, []int{5}},
		{[]api.Event{ask(0, api.Op{Do: 7, Off: 8, N: 9})}, []int{0}},
		{[]api.Event{back(0, api.Result{Code: 7, N: 9})}, []int{9}},
		{[]api.Event{back(0, api.Result{Code: 7})}, []int{0}},
		{[]api.Event{ask(0, api.Op{H: 9}), back(0, api.Result{N: 3}), ask(1, api.Op{H: 3}), ask(2, api.Op{H: 9}), back(2, api.Result{N: 9}), back(1, api.Result{N: -4})}, []int{-4, 3, 9}},
		{[]api.Event{{Op: api.Op{H: 5}, Result: api.Result{N: 6}}}, []int{5}},
		{[]api.Event{{Back: true, Op: api.Op{H: 5}, Result: api.Result{N: 6}}}, []int{6}},
		{[]api.Event{ask(-1, api.Op{H: 2}), back(4, api.Result{N: 1})}, []int{1, 2}},
		{[]api.Event{back(0, api.Result{N: 8}), back(0, api.Result{N: 7}), ask(0, api.Op{H: 8}), ask(0, api.Op{H: 6})}, []int{6, 7, 8}},
		{[]api.Event{ask(0, api.Op{H: math.MaxInt}), back(0, api.Result{N: math.MinInt}), ask(0, api.Op{H: 1 << 40})}, []int{math.MinInt, 1 << 40, math.MaxInt}},
	} {
		before := slices.Clone(c.l)
		if got := event.Handles(c.l); !slices.Equal(got, c.want) {
			t.Errorf("P8.2: case %d: Handles(%v): %v, not %v", i, c.l, got, c.want)
		}
		if !slices.Equal(c.l, before) {
			t.Errorf("R5: case %d: Handles changed %v to %v", i, before, c.l)
		}
	}
}

// TestHandlesOfMany asks of each number whether it is told: it is if an event tells it.
func TestHandlesOfMany(t *testing.T) {
	for rule := range 20 {
		l := longHistory(rule, 200)
		for i := range l {
			l[i].Op.H %= 40
			l[i].Result.N %= 50
		}
		got := event.Handles(l)
		for n := -60; n <= 60; n++ {
			told := slices.ContainsFunc(l, func(e api.Event) bool { return !e.Back && e.Op.H == n || e.Back && e.Result.N == n })
			if slices.Contains(got, n) != told {
				t.Errorf("P8.2: Handles of history %d: %d among them: %v, not %v", rule, n, !told, told)
			}
		}
		for i := 1; i < len(got); i++ {
			if got[i-1] >= got[i] {
				t.Errorf("P8.2: Handles of history %d do not rise: %v", rule, got)
			}
		}
	}
}

// TestCallsOfOneThread has no oracle: calls are held against each other alone.
func TestCallsOfOneThread(t *testing.T) {
	for rule := range 20 {
		calls, err := event.Calls(longHistory(rule, 120))
		if err != api.OK || len(calls) == 0 {
			t.Fatalf("P8.3: %v, %d", calls, err)
		}
		for i, a := range calls {
			for _, b := range calls[i:] {
				if event.Before(b, a) {
					t.Errorf("P8.3: %v was asked ahead of %v, and is behind it", a, b)
				}
			}
			for _, b := range calls[i+1:] {
				if a.Thread == b.Thread && !event.Before(a, b) {
					t.Errorf("P8.3: %v and %v are of one thread, and not one before the other", a, b)
				}
			}
		}
	}
}

// TestSameAgain has answers of two calls share nothing.
func TestSameAgain(t *testing.T) {
	l := longHistory(7, 50)
	calls, _ := event.Calls(l)
	handles := event.Handles(l)
	clear(calls)
	clear(handles)
	checkList(t, l)
	if got := event.Handles(l); !slices.IsSorted(got) || slices.Equal(got, handles) {
		t.Errorf("R5: Handles behind a change of an answer: %v", got)
	}
}
