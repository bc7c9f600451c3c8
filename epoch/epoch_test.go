package epoch_test

import (
	"math"
	"slices"
	"testing"

	"sidings/api"
	"sidings/cells"
	"sidings/epoch"
)

func wrongConfigs() []api.Config {
	return []api.Config{
		{}, {Arena: 0, Slots: 5, Threads: 2}, {Arena: 4, Slots: 5, Threads: 2}, {Arena: 12, Slots: 5, Threads: 2}, {Arena: -8, Slots: 5, Threads: 2}, {Arena: 4104, Slots: 5, Threads: 2},
		{Arena: 64, Slots: 0, Threads: 2}, {Arena: 64, Slots: -1, Threads: 2}, {Arena: 64, Slots: 65, Threads: 2}, {Arena: 64, Slots: 5}, {Arena: 64, Slots: 5, Threads: -1}, {Arena: 64, Slots: 5, Threads: 5},
		{Arena: math.MinInt, Slots: math.MinInt, Threads: math.MinInt}, {Arena: math.MaxInt, Slots: math.MaxInt, Threads: math.MaxInt},
	}
}

func wrongThreads(c api.Config) []int {
	return []int{-1, -4, c.Threads, c.Threads + 1, 64, math.MinInt, math.MaxInt}
}

// epochs are words that an Epoch may be, as it goes around.
func epochs() []int {
	return []int{0, 1, 2, 7, 1000, 1 << 40, math.MaxInt - 1, math.MaxInt, math.MinInt, math.MinInt + 1, -2, -1}
}

func TestExample(t *testing.T) {
	m, c := filled(t, 0, 0)
	enters(t, epoch.NewEnter(c, 0), m, 0, 0)
	x := epoch.NewTurn(c)
	steps(t, x, m, loadEpoch(), raise(0))
	last(t, x, m, loadNote(0), false)
}

// TestEnter has each thread come in, at each epoch: its own note alone turns, whatever that was.
func TestEnter(t *testing.T) {
	for count := 1; count <= 4; count++ {
		for thread := range count {
			for _, from := range epochs() {
				for _, was := range []int{0, 1, 5, -1, math.MinInt, math.MaxInt} {
					notes := []int{11, 12, 13, 14}[:count]
					notes[thread] = was
					m, c := filled(t, from, notes...)
					want := words(m)
					want[noteAt(thread)] = from + 1
					enters(t, epoch.NewEnter(c, thread), m, thread, from)
					if got := words(m); !slices.Equal(got, want) {
						t.Fatalf("P16.1: thread %d at %d: %v, not %v", thread, from, got, want)
					}
				}
			}
		}
	}
}

// TestEnterOfAnOldEpoch has the epoch turn between the two steps: the note tells of the one that was loaded.
func TestEnterOfAnOldEpoch(t *testing.T) {
	m, c := filled(t, 8, 0, 0)
	x := epoch.NewEnter(c, 1)
	enterStep(t, x, m, loadEpoch(), false)
	m.Store(epochAt, 20)
	m.Store(noteAt(1), 3)
	enterStep(t, x, m, note(1, 9), true)
	enters(t, epoch.NewEnter(c, 1), m, 1, 20)
}

// TestExit has each thread leave by one step: its own note alone turns, and it may come in again.
func TestExit(t *testing.T) {
	for count := 1; count <= 4; count++ {
		for thread := range count {
			for _, was := range []int{0, 1, 9, -1, math.MaxInt} {
				notes := []int{11, 12, 13, 14}[:count]
				notes[thread] = was
				m, c := filled(t, 30, notes...)
				want := words(m)
				want[noteAt(thread)] = 0
				exits(t, m, c, thread, note(thread, 0))
				if got := words(m); !slices.Equal(got, want) {
					t.Fatalf("P16.1: thread %d: %v, not %v", thread, got, want)
				}
				enters(t, epoch.NewEnter(c, thread), m, thread, 30)
				exits(t, m, c, thread, note(thread, 0))
				exits(t, m, c, thread, note(thread, 0))
			}
		}
	}
}

// TestThreadsThatThereAreNot has neither come in nor leave what is no thread of the config.
func TestThreadsThatThereAreNot(t *testing.T) {
	for count := 1; count <= 4; count++ {
		m, c := filled(t, 5, []int{1, 2, 3, 4}[:count]...)
		want := words(m)
		for _, thread := range wrongThreads(c) {
			x := epoch.NewEnter(c, thread)
			enterStep(t, x, m, "", true)
			enterStep(t, x, m, "", true)
			exits(t, m, c, thread, "")
		}
		if got := words(m); !slices.Equal(got, want) {
			t.Errorf("P16.1: %v, not %v", got, want)
		}
	}
}

func TestWrongConfigs(t *testing.T) {
	for _, c := range wrongConfigs() {
		m, _ := filled(t, 5, 1, 2, 3, 4)
		want := words(m)
		for _, thread := range []int{0, 1, -1, 4, math.MaxInt} {
			x := epoch.NewEnter(c, thread)
			enterStep(t, x, m, "", true)
			enterStep(t, x, m, "", true)
			exits(t, m, c, thread, "")
		}
		last(t, epoch.NewTurn(c), m, "", false)
		n := &noted{Cells: m}
		if l := epoch.Inside(n, c); len(l) != 0 || len(n.calls) != 0 {
			t.Errorf("P16.3: of %v: %v, by %v", c, l, n.calls)
		}
		if got := words(m); !slices.Equal(got, want) {
			t.Errorf("P16.2: of %v: %v, not %v", c, got, want)
		}
	}
}

// TestTurn has all threads be outside, or have notes of nobody: the Turn looks at each.
func TestTurn(t *testing.T) {
	for _, from := range epochs() {
		for _, notes := range [][]int{{0}, {0, 0}, {0, 0, 0}, {0, 0, 0, 0}, {-1, math.MinInt, 0, -7}} {
			m, c := filled(t, from, notes...)
			want := words(m)
			want[epochAt] = from + 1
			x := epoch.NewTurn(c)
			steps(t, x, m, loadEpoch(), raise(from))
			for thread := range len(notes) - 1 {
				steps(t, x, m, loadNote(thread))
			}
			last(t, x, m, loadNote(len(notes)-1), true)
			if got := words(m); !slices.Equal(got, want) {
				t.Errorf("P16.2: from %d: %v, not %v", from, got, want)
			}
		}
	}
}

// TestTurnFindsOne has one thread be inside that came ahead of the Turn: that ends at it.
func TestTurnFindsOne(t *testing.T) {
	for count := 1; count <= 4; count++ {
		for old := range count {
			for _, n := range []int{1, 2, 50, 100, 101} {
				notes := []int{0, 102, 0, 103}[:count]
				notes[old] = n
				m, c := filled(t, 100, notes...)
				want := words(m)
				want[epochAt] = 101
				x := epoch.NewTurn(c)
				steps(t, x, m, loadEpoch(), raise(100))
				for thread := range old {
					steps(t, x, m, loadNote(thread))
				}
				last(t, x, m, loadNote(old), false)
				if got := words(m); !slices.Equal(got, want) {
					t.Errorf("P16.2: %v, not %v", got, want)
				}
			}
		}
	}
}

// TestTurnOfAnyNote has a thread's note be of any epoch: those from the turned one on, and those of nobody, are passed.
func TestTurnOfAnyNote(t *testing.T) {
	for _, from := range []int{0, 1, 6, 1000, math.MaxInt - 2, math.MaxInt - 1} {
		for _, n := range []int{math.MinInt, -1, 0, 1, 2, from - 1, from, from + 1, from + 2, from + 3, math.MaxInt - 1, math.MaxInt} {
			m, c := filled(t, from, n)
			x := epoch.NewTurn(c)
			steps(t, x, m, loadEpoch(), raise(from))
			last(t, x, m, loadNote(0), n <= 0 || n-1 > from)
		}
	}
	// Where the epoch goes around, no note is older than the least number.
	m, c := filled(t, math.MaxInt, 1, math.MaxInt)
	x := epoch.NewTurn(c)
	steps(t, x, m, loadEpoch(), raise(math.MaxInt), loadNote(0))
	last(t, x, m, loadNote(1), true)
}

// TestTurnAgain has the Cas be not done, as another Turn was ahead: 1 comes again, and it goes by the last Load.
func TestTurnAgain(t *testing.T) {
	m, c := filled(t, 10, 0, 0)
	x := epoch.NewTurn(c)
	for from := 10; from < 30; from += 2 {
		steps(t, x, m, loadEpoch())
		m.Store(epochAt, from+2)
		steps(t, x, m, raise(from))
		if m.Load(epochAt) != from+2 {
			t.Errorf("P16.2: the epoch is %d", m.Load(epochAt))
		}
	}
	m.Store(noteAt(1), 31)
	steps(t, x, m, loadEpoch(), raise(30), loadNote(0))
	last(t, x, m, loadNote(1), false)
	// One more that came in at 31 is not older.
	m.Store(noteAt(1), 33)
	x = epoch.NewTurn(c)
	steps(t, x, m, loadEpoch())
	m.Store(epochAt, 30)
	steps(t, x, m, raise(31))
	m.Store(epochAt, 31)
	steps(t, x, m, loadEpoch(), raise(31), loadNote(0))
	last(t, x, m, loadNote(1), true)
}

// TestTurnSeesEachNoteByItself has threads come and go between the steps: what each note is when it is loaded is what matters.
func TestTurnSeesEachNoteByItself(t *testing.T) {
	m, c := filled(t, 4, 5, 5, 5)
	x := epoch.NewTurn(c)
	steps(t, x, m, loadEpoch(), raise(4))
	exits(t, m, c, 0, note(0, 0))
	steps(t, x, m, loadNote(0))
	exits(t, m, c, 1, note(1, 0))
	enters(t, epoch.NewEnter(c, 1), m, 1, 5)
	enters(t, epoch.NewEnter(c, 0), m, 0, 5)
	steps(t, x, m, loadNote(1))
	m.Store(noteAt(0), 1) // behind the Turn's look at it
	exits(t, m, c, 2, note(2, 0))
	last(t, x, m, loadNote(2), true)

	// One that loaded the old epoch comes in with it behind the Cas: it is older, all the same.
	m, c = filled(t, 4, 0, 0)
	late := epoch.NewEnter(c, 1)
	enterStep(t, late, m, loadEpoch(), false)
	x = epoch.NewTurn(c)
	steps(t, x, m, loadEpoch(), raise(4), loadNote(0))
	enterStep(t, late, m, note(1, 5), true)
	last(t, x, m, loadNote(1), false)
	// The next Turn finds it, too, and the one behind its Exit does not.
	x = epoch.NewTurn(c)
	steps(t, x, m, loadEpoch(), raise(5), loadNote(0))
	last(t, x, m, loadNote(1), false)
	exits(t, m, c, 1, note(1, 0))
	x = epoch.NewTurn(c)
	steps(t, x, m, loadEpoch(), raise(6), loadNote(0))
	last(t, x, m, loadNote(1), true)
}

func TestInside(t *testing.T) {
	for _, c := range []struct {
		notes []int
		want  []int
	}{
		{[]int{0}, nil},
		{[]int{1}, []int{0}},
		{[]int{-1}, nil},
		{[]int{math.MinInt, math.MaxInt}, []int{1}},
		{[]int{5, 0}, []int{0}},
		{[]int{0, 5, 0, 1}, []int{1, 3}},
		{[]int{9, 8, 7, 6}, []int{0, 1, 2, 3}},
		{[]int{2, -5, 1}, []int{0, 2}},
	} {
		m, k := filled(t, 3, c.notes...)
		want := words(m)
		if l := epoch.Inside(m, k); !slices.Equal(l, c.want) {
			t.Errorf("P16.3: of %v: %v, not %v", c.notes, l, c.want)
		}
		if got := words(m); !slices.Equal(got, want) {
			t.Errorf("P16.3: of %v: words %v, not %v", c.notes, got, want)
		}
	}
}

// TestInsideIsNew has what one call answers not hang on another one's.
func TestInsideIsNew(t *testing.T) {
	m, c := filled(t, 3, 1, 0, 1)
	first := epoch.Inside(m, c)
	first[0] = 77
	if l := epoch.Inside(m, c); !slices.Equal(l, []int{0, 2}) {
		t.Errorf("P16.3: %v", l)
	}
}

func TestNil(t *testing.T) {
	m, c := filled(t, 3, 1, 0)
	want := words(m)
	enterStep(t, nil, m, "", true)
	enterStep(t, &epoch.Enter{}, m, "", true)
	last(t, nil, m, "", false)
	last(t, &epoch.Turn{}, m, "", false)
	noEnter := func(x *epoch.Enter) {
		t.Helper()
		for range 2 {
			if !x.Step(nil) {
				t.Error("P16.1: a step of a nil m tells false")
			}
		}
	}
	noTurn := func(x *epoch.Turn) {
		t.Helper()
		for range 2 {
			if left, end := x.Step(nil); left || !end {
				t.Errorf("P16.2: a step of a nil m tells %v, %v", left, end)
			}
		}
	}
	noEnter(nil)
	noEnter(&epoch.Enter{})
	noEnter(epoch.NewEnter(c, 7))
	noTurn(nil)
	noTurn(&epoch.Turn{})
	noTurn(epoch.NewTurn(api.Config{}))
	epoch.Exit(nil, c, 0)
	epoch.Exit(nil, api.Config{}, 9)
	for _, k := range []api.Config{c, {}} {
		if l := epoch.Inside(nil, k); len(l) != 0 {
			t.Errorf("P16.3: of a nil m: %v", l)
		}
	}
	if got := words(m); !slices.Equal(got, want) {
		t.Errorf("P16.1: %v, not %v", got, want)
	}

	// Machines go on behind a step of a nil m as if nothing had been.
	e := epoch.NewEnter(c, 1)
	noEnter(e)
	enterStep(t, e, m, loadEpoch(), false)
	noEnter(e)
	enterStep(t, e, m, note(1, 4), true)
	noEnter(e)
	x := epoch.NewTurn(c)
	noTurn(x)
	steps(t, x, m, loadEpoch())
	noTurn(x)
	steps(t, x, m, raise(3))
	exits(t, m, c, 0, note(0, 0))
	exits(t, m, c, 1, note(1, 0))
	noTurn(x)
	steps(t, x, m, loadNote(0))
	noTurn(x)
	last(t, x, m, loadNote(1), true)
	noTurn(x)
}

// TestTooFewCells has cells without an epoch, or without notes: they tell 0, and no Cas of theirs is done.
func TestTooFewCells(t *testing.T) {
	c := config(2)
	var noPlain *cells.Plain
	var noAtomic *cells.Atomic
	for _, m := range []cells.Cells{cells.New(3, 8), cells.NewAtomic(1, 0), noPlain, noAtomic} {
		enters(t, epoch.NewEnter(c, 1), m, 1, 0)
		exits(t, m, c, 1, note(1, 0))
		x := epoch.NewTurn(c)
		for range 5 {
			steps(t, x, m, loadEpoch(), raise(0))
		}
		if l := epoch.Inside(m, c); len(l) != 0 {
			t.Errorf("P16.3: %v", l)
		}
	}
	// Of cells without the last thread's note that is one of nobody.
	m := cells.New(noteAt(1), 0)
	x := epoch.NewTurn(c)
	enters(t, epoch.NewEnter(c, 1), m, 1, 0)
	steps(t, x, m, loadEpoch(), raise(0), loadNote(0))
	last(t, x, m, loadNote(1), true)
	enters(t, epoch.NewEnter(c, 0), m, 0, 1)
	if l := epoch.Inside(m, c); !slices.Equal(l, []int{0}) {
		t.Errorf("P16.3: %v", l)
	}
}

// TestMachinesAreApart has machines by turns over cells of their own, and over the same ones: each has its own steps.
func TestMachinesAreApart(t *testing.T) {
	m, c := filled(t, 3, 0, 0)
	o, k := filled(t, 90, 0, 0, 0, 0)
	a, b := epoch.NewEnter(c, 0), epoch.NewEnter(k, 3)
	enterStep(t, a, m, loadEpoch(), false)
	enterStep(t, b, o, loadEpoch(), false)
	enterStep(t, a, m, note(0, 4), true)
	enterStep(t, b, o, note(3, 91), true)
	exits(t, m, c, 0, note(0, 0))
	x, y := epoch.NewTurn(c), epoch.NewTurn(k)
	steps(t, x, m, loadEpoch())
	steps(t, y, o, loadEpoch())
	steps(t, x, m, raise(3))
	steps(t, y, o, raise(90))
	steps(t, x, m, loadNote(0))
	steps(t, y, o, loadNote(0))
	last(t, x, m, loadNote(1), true)
	steps(t, y, o, loadNote(1), loadNote(2))
	last(t, y, o, loadNote(3), false)

	x, y = epoch.NewTurn(c), epoch.NewTurn(c)
	steps(t, x, m, loadEpoch())
	steps(t, y, m, loadEpoch(), raise(4))
	steps(t, x, m, raise(4), loadEpoch(), raise(5), loadNote(0))
	steps(t, y, m, loadNote(0))
	last(t, y, m, loadNote(1), true)
	last(t, x, m, loadNote(1), true)
}
