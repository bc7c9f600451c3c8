package pin_test

import (
	"math"
	"testing"

	"sidings/api"
	"sidings/cells"
	"sidings/pin"
)

// kind is what machines do: pin, or unpin.
type kind struct {
	new func(c api.Config, h int) *pin.Machine
	by  int
	end int // as many pins as may be turned no more
	err api.Errno
}

func pins() kind   { return kind{new: pin.New, by: 1, end: 7, err: api.ErrPinOver} }
func unpins() kind { return kind{new: pin.NewUn, by: -1, end: 0, err: api.ErrNotPinned} }

func kinds() []kind { return []kind{pins(), unpins()} }

// lying is an object that lies in the arena.
type lying struct {
	c      api.Config
	slot   int
	gen    int
	offset int
	pins   int
	guards int
}

func (k lying) cells(t *testing.T) *cells.Plain {
	t.Helper()
	m := filled(t, k.c)
	for s := range k.c.Slots {
		m.Store(entryAt(k.c, s), wordOf(0, 500)+3*onePin)
		m.Store(sizeAt(k.c, s), 4000)
	}
	m.Store(entryAt(k.c, k.slot), k.word())
	return m
}

func (k lying) word() int               { return wordOf(k.offset, k.gen) + k.pins*onePin + k.guards*guard }
func (k lying) handle() int             { return handleOf(k.slot, k.gen) }
func (k lying) new(d kind) *pin.Machine { return d.new(k.c, k.handle()) }
func (k lying) load() string            { return call("load", entryAt(k.c, k.slot)) }
func (k lying) cas(word int, by int) string {
	return call("cas", entryAt(k.c, k.slot), word, word+by*onePin)
}

// set sets the object's entry.
func (k lying) set(m cells.Cells, word int) { m.Store(entryAt(k.c, k.slot), word) }

// is has the object's entry be this.
func (k lying) is(t *testing.T, m cells.Cells, word int) {
	t.Helper()
	if got := m.Load(entryAt(k.c, k.slot)); got != word {
		t.Errorf("P14.1: the entry: %d, not %d", got, word)
	}
}

// turns has a machine pin or unpin the object, or tell that it may not, by all of its steps from the first one on.
func (k lying) turns(t *testing.T, x *pin.Machine, m cells.Cells, d kind) {
	t.Helper()
	if k.pins == d.end {
		last(t, x, m, k.load(), failed(d.err))
		k.is(t, m, k.word())
		return
	}
	steps(t, x, m, k.load())
	k.is(t, m, k.word())
	last(t, x, m, k.cas(k.word(), d.by), api.Result{})
	k.is(t, m, k.word()+d.by*onePin)
}

// ordinary is an object of which nothing is at an edge.
func ordinary() lying {
	return lying{c: api.Config{Arena: 64, Slots: 5, Threads: 2}, slot: 3, gen: 5, offset: 16, pins: 3}
}

// noEntries are words of no entry.
func noEntries() []int {
	return []int{
		wordOf(16, 5) + 8*onePin, wordOf(16, 5) + 15*onePin, wordOf(16, 5) + lock + onePin, wordOf(16, 5) + lock + guard, wordOf(4097, 5), wordOf(16, 1001), wordOf(16, 5) + 1<<50, wordOf(16, 5) + 1<<62,
		freed(5) + 16, freed(5) + onePin, freed(5) + guard, freed(5) + lock, freed(1001), -1, math.MinInt, math.MinInt + wordOf(16, 5), math.MaxInt,
	}
}

// staleWords are of another generation, or of none that lives, or of no entry.
func staleWords() []int {
	return append(noEntries(),
		wordOf(16, 4), wordOf(16, 6), wordOf(16, 0), wordOf(16, 1000), wordOf(16, 4)+lock, wordOf(16, 6)+lock, wordOf(16, 6)+3*onePin, wordOf(16, 6)+7*onePin, wordOf(16, 4)+7*onePin, wordOf(0, 6),
		freed(0), freed(4), freed(5), freed(6), freed(1000))
}

func TestExample(t *testing.T) {
	k := ordinary()
	k.pins = 0
	m, x := k.cells(t), pin.NewUn(k.c, k.handle())
	before := m.Steps()
	if r, end := x.Step(m); r != failed(api.ErrNotPinned) || !end || m.Steps() != before+1 {
		t.Errorf("P14.1: example 1: %v, %v, by %d calls", r, end, m.Steps()-before)
	}
}

// someObjects are objects of many kinds.
func someObjects() []lying {
	wide := api.Config{Arena: 4096, Slots: 64, Threads: 4}
	small := api.Config{Arena: 8, Slots: 1, Threads: 1}
	middle := api.Config{Arena: 64, Slots: 5, Threads: 2}
	return []lying{
		ordinary(),
		{c: small},
		{c: small, gen: 1000},
		{c: small, offset: 7, gen: 999},
		{c: wide, slot: 63, offset: 4096},
		{c: wide, slot: 62, offset: 1001, gen: 77},
		{c: middle, slot: 4, offset: 56, guards: 1},
		{c: middle, slot: 0, guards: 15},
	}
}

// TestSteps pins, and unpins, what has any number of pins, each step told by itself; all else is as it was.
func TestSteps(t *testing.T) {
	for _, k := range someObjects() {
		for k.pins = range 8 {
			for _, d := range kinds() {
				m, want := k.cells(t), k.cells(t)
				k.turns(t, k.new(d), m, d)
				if k.pins != d.end {
					k.set(want, k.word()+d.by*onePin)
				}
				same(t, m, want)
				if t.Failed() {
					t.Fatalf("P14.1: of %+v by %d", k, d.by)
				}
			}
		}
	}
}

// TestUpAndDown pins as often as may be, and once more, and unpins as often, and once more.
func TestUpAndDown(t *testing.T) {
	k := ordinary()
	k.pins = 0
	m := k.cells(t)
	for range 2 {
		for _, d := range kinds() {
			for range 7 {
				k.turns(t, k.new(d), m, d)
				k.pins += d.by
			}
			k.turns(t, k.new(d), m, d)
		}
	}
	same(t, m, k.cells(t))
}

// TestLocked has a Pin wait for the lock, a step a time; an Unpin finds that there is no pin.
func TestLocked(t *testing.T) {
	k := ordinary()
	m := k.cells(t)
	k.set(m, wordOf(16, 5)+lock)
	last(t, k.new(unpins()), m, k.load(), failed(api.ErrNotPinned))
	k.is(t, m, wordOf(16, 5)+lock)
	for k.pins = range 8 {
		k.offset = 16
		m, x := k.cells(t), k.new(pins())
		k.set(m, wordOf(16, 5)+lock)
		for range 10 {
			steps(t, x, m, k.load())
		}
		k.is(t, m, wordOf(16, 5)+lock)
		k.offset = 8
		k.set(m, k.word())
		k.turns(t, x, m, pins())
	}
	for _, word := range staleWords() {
		k := ordinary()
		m, x := k.cells(t), k.new(pins())
		k.set(m, wordOf(16, 5)+lock)
		steps(t, x, m, k.load(), k.load())
		k.set(m, word)
		last(t, x, m, k.load(), failed(api.ErrStale))
	}
}

// TestStale has words that are stale for the handle from the first step on: neither the lock nor pins are asked for.
func TestStale(t *testing.T) {
	for _, word := range staleWords() {
		for _, d := range kinds() {
			k := ordinary()
			m, want := k.cells(t), k.cells(t)
			k.set(m, word)
			last(t, k.new(d), m, k.load(), failed(api.ErrStale))
			k.set(want, word)
			same(t, m, want)
		}
	}
}

// TestGenerations has handles of earlier and later generations than the one that lives.
func TestGenerations(t *testing.T) {
	for _, gen := range []int{0, 1, 5, 500, 999, 1000} {
		for _, asked := range []int{0, 1, gen - 1, gen, gen + 1, 1000} {
			for _, d := range kinds() {
				if asked < 0 || asked > 1000 {
					continue
				}
				k := ordinary()
				k.gen = gen
				m, x := k.cells(t), d.new(k.c, handleOf(3, asked))
				if asked == gen {
					k.turns(t, x, m, d)
					continue
				}
				last(t, x, m, k.load(), failed(api.ErrStale))
				same(t, m, k.cells(t))
			}
		}
	}
}

func TestHandlesThatAreNone(t *testing.T) {
	k := ordinary()
	wide := api.Config{Arena: 8, Slots: 64, Threads: 1}
	for _, d := range kinds() {
		for _, h := range []int{
			0, 1, 3, -1, 1 << 40 << 1, freed(5) + 3, handleOf(5, 0), handleOf(5, 5), handleOf(63, 5), handleOf(64, 5), handleOf(-1, 5), handleOf(3, 1001), handleOf(3, -1),
			handleOf(3, 5) + 1<<41, handleOf(3, 5) + 1<<62, -handleOf(3, 5), math.MinInt, math.MinInt + handleOf(3, 5), math.MaxInt,
		} {
			m := k.cells(t)
			last(t, d.new(k.c, h), m, "", failed(api.ErrStale))
			same(t, m, k.cells(t))
		}
		last(t, d.new(wide, handleOf(64, 0)), filled(t, wide), "", failed(api.ErrStale))
		for slot := range 64 {
			k := lying{c: wide, slot: slot, gen: 9, pins: 2}
			k.turns(t, k.new(d), k.cells(t), d)
		}
	}
}

// found is what the first step of a machine tells of a word, and whether the machine goes on to the Cas; a Pin may wait.
func found(word int, d kind) (api.Errno, bool) {
	for _, stale := range staleWords() {
		if word == stale {
			return api.ErrStale, false
		}
	}
	if word/lock%2 == 1 && d.by == 1 {
		return api.OK, false
	}
	if pinsOf(word) == d.end {
		return d.err, false
	}
	return api.OK, true
}

// others are words that an entry may turn into while it is pinned, or unpinned.
func others() []int {
	l := append(staleWords(), wordOf(16, 5)+lock, wordOf(8, 5)+lock)
	for _, offset := range []int{0, 8, 16, 17, 4096} {
		for pins := range 8 {
			for _, guards := range []int{0, 1, 15} {
				l = append(l, wordOf(offset, 5)+pins*onePin+guards*guard)
			}
		}
	}
	return l
}

// TestTurned has the Cas at 2 be not done: the entry was locked, pinned, unpinned, guarded, moved, freed, or made anew; 1 comes again.
func TestTurned(t *testing.T) {
	for _, word := range others() {
		for _, d := range kinds() {
			k := ordinary()
			m, x := k.cells(t), k.new(d)
			steps(t, x, m, k.load())
			k.set(m, word)
			if word == k.word() {
				last(t, x, m, k.cas(word, d.by), api.Result{})
				continue
			}
			steps(t, x, m, k.cas(k.word(), d.by))
			k.is(t, m, word)
			err, on := found(word, d)
			if err != api.OK {
				last(t, x, m, k.load(), failed(err))
				k.is(t, m, word)
				continue
			}
			steps(t, x, m, k.load())
			if on {
				k.set(m, k.word())
				steps(t, x, m, k.cas(word, d.by))
			}
			k.offset, k.pins, k.guards = 40, 4, 2
			k.set(m, k.word())
			k.turns(t, x, m, d)
			if t.Failed() {
				t.Fatalf("P14.1: turned into %d, by %d", word, d.by)
			}
		}
	}
}

// TestTurnedManyTimes has the Cas be not done again and again: it goes by the last Load each time.
func TestTurnedManyTimes(t *testing.T) {
	for _, d := range kinds() {
		k := ordinary()
		m, x := k.cells(t), k.new(d)
		for i := range 20 {
			steps(t, x, m, k.load())
			old := k.word()
			k.offset, k.pins, k.guards = i%7*8, 1+i%6, i%16
			k.set(m, k.word())
			if k.word() == old {
				t.Fatal("the entry did not turn")
			}
			steps(t, x, m, k.cas(old, d.by))
		}
		k.turns(t, x, m, d)
	}
}

// TestSameWordAgain has the entry be away between the steps, and back: the Cas is done then.
func TestSameWordAgain(t *testing.T) {
	for _, word := range others() {
		for _, d := range kinds() {
			k := ordinary()
			m, x := k.cells(t), k.new(d)
			steps(t, x, m, k.load())
			k.set(m, word)
			k.set(m, k.word())
			last(t, x, m, k.cas(k.word(), d.by), api.Result{})
			k.is(t, m, k.word()+d.by*onePin)
		}
	}
}

// TestNil has machines that are nil, or that neither New nor NewUn made, an m that is nil, and machines that go on behind that as if nothing had been.
func TestNil(t *testing.T) {
	k := ordinary()
	m := k.cells(t)
	last(t, nil, m, "", failed(api.ErrArg))
	last(t, &pin.Machine{}, m, "", failed(api.ErrArg))
	same(t, m, k.cells(t))
	none := func(x *pin.Machine) {
		t.Helper()
		for range 2 {
			if r, end := x.Step(nil); r != failed(api.ErrArg) || !end {
				t.Errorf("P14.1: a step of a nil m tells %v, %v", r, end)
			}
		}
	}
	none(nil)
	none(&pin.Machine{})
	for _, d := range kinds() {
		x := k.new(d)
		none(x)
		steps(t, x, m, k.load())
		none(x)
		last(t, x, m, k.cas(k.word(), d.by), api.Result{})
		none(x)
		k.set(m, k.word())
		wrong := d.new(k.c, 0)
		none(wrong)
		last(t, wrong, m, "", failed(api.ErrStale))
		none(d.new(api.Config{}, k.handle()))
	}
}

// TestWrongConfigs has no step do anything, whatever the handle is.
func TestWrongConfigs(t *testing.T) {
	k := ordinary()
	for _, c := range []api.Config{
		{}, {Arena: 0, Slots: 5, Threads: 2}, {Arena: 4, Slots: 5, Threads: 2}, {Arena: 12, Slots: 5, Threads: 2}, {Arena: -8, Slots: 5, Threads: 2}, {Arena: 4104, Slots: 5, Threads: 2},
		{Arena: 64, Slots: 0, Threads: 2}, {Arena: 64, Slots: -1, Threads: 2}, {Arena: 64, Slots: 65, Threads: 2}, {Arena: 64, Slots: 5}, {Arena: 64, Slots: 5, Threads: -1}, {Arena: 64, Slots: 5, Threads: 5},
		{Arena: math.MinInt, Slots: math.MinInt, Threads: math.MinInt}, {Arena: math.MaxInt, Slots: math.MaxInt, Threads: math.MaxInt},
	} {
		for _, h := range []int{k.handle(), handleOf(0, 0), 0, -1} {
			for _, d := range kinds() {
				m := k.cells(t)
				last(t, d.new(c, h), m, "", failed(api.ErrArg))
				same(t, m, k.cells(t))
			}
		}
	}
}

// TestTooFewCells has cells without the slot's entry: they tell 0. No other words are asked for, and no bytes.
func TestTooFewCells(t *testing.T) {
	k := ordinary()
	var none *cells.Plain
	var noAtomic *cells.Atomic
	for _, d := range kinds() {
		for _, m := range []cells.Cells{cells.New(1, 64), cells.NewAtomic(entryAt(k.c, 3), 0), none, noAtomic} {
			last(t, k.new(d), m, k.load(), failed(api.ErrStale))
			last(t, d.new(k.c, handleOf(3, 0)), m, k.load(), failed(api.ErrStale))
		}
		m := cells.New(entryAt(k.c, 3)+1, 0)
		k.set(m, k.word())
		k.turns(t, k.new(d), m, d)
		// Cells that are too few behind the first step have no entry any more.
		few, x := cells.New(1, 0), k.new(d)
		k.set(m, k.word())
		steps(t, x, m, k.load())
		steps(t, x, few, k.cas(k.word(), d.by))
		last(t, x, few, k.load(), failed(api.ErrStale))
		k.is(t, m, k.word())
	}
}

// TestNothingIsShared has machines of one handle at a time: each has its own steps.
func TestNothingIsShared(t *testing.T) {
	k := ordinary()
	m, first, second, third := k.cells(t), k.new(pins()), k.new(unpins()), k.new(pins())
	steps(t, first, m, k.load())
	steps(t, second, m, k.load())
	steps(t, third, m, k.load())
	last(t, third, m, k.cas(k.word(), 1), api.Result{})
	steps(t, first, m, k.cas(k.word(), 1))
	steps(t, second, m, k.cas(k.word(), -1))
	k.pins = 4
	k.turns(t, second, m, unpins())
	k.pins = 3
	k.turns(t, first, m, pins())
}
