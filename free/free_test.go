package free_test

import (
	"math"
	"testing"

	"sidings/api"
	"sidings/cells"
	"sidings/free"
)

// lying is an object that lies in the arena, and what slots are free beside it.
type lying struct {
	c      api.Config
	slot   int
	gen    int
	offset int
	free   []int
	tag    int
}

// top is that of a slot that is free.
func (k lying) top(at int) int {
	if at >= len(k.free) {
		return 0
	}
	return k.free[at] + 1
}

// cells are such that a wrong word of another slot would be found.
func (k lying) cells(t *testing.T) *cells.Plain {
	t.Helper()
	m := filled(t, k.c)
	for s := range k.c.Slots {
		m.Store(entryAt(k.c, s), wordOf(0, 500))
		m.Store(sizeAt(k.c, s), 4000+s)
		m.Store(linkAt(k.c, s), -1)
	}
	for i, s := range k.free {
		m.Store(entryAt(k.c, s), freed(7))
		m.Store(linkAt(k.c, s), k.top(i+1))
	}
	m.Store(entryAt(k.c, k.slot), k.word())
	m.Store(stackAt, k.head())
	return m
}

func (k lying) word() int          { return wordOf(k.offset, k.gen) }
func (k lying) head() int          { return headOf(k.top(0), k.tag) }
func (k lying) handle() int        { return handleOf(k.slot, k.gen) }
func (k lying) new() *free.Machine { return free.New(k.c, k.handle()) }
func (k lying) load() string       { return call("load", entryAt(k.c, k.slot)) }

// behind is the word behind the free.
func (k lying) behind() int {
	if k.gen == 1000 {
		return freed(1000)
	}
	return freed(k.gen + 1)
}

// pushed is the head behind the free.
func (k lying) pushed() int {
	if k.tag == mostTag {
		return headOf(k.slot+1, 0)
	}
	return headOf(k.slot+1, k.tag+1)
}

func (k lying) cas() string     { return k.casOf(k.word()) }
func (k lying) loadTop() string { return call("load", stackAt) }
func (k lying) link() string    { return call("store", linkAt(k.c, k.slot), k.top(0)) }
func (k lying) push() string    { return call("cas", stackAt, k.head(), k.pushed()) }
func (k lying) casOf(word int) string {
	return call("cas", entryAt(k.c, k.slot), word, k.behind())
}

// set sets the object's entry.
func (k lying) set(m cells.Cells, word int) { m.Store(entryAt(k.c, k.slot), word) }

// is has the object's entry be this.
func (k lying) is(t *testing.T, m cells.Cells, word int) {
	t.Helper()
	if got := m.Load(entryAt(k.c, k.slot)); got != word {
		t.Errorf("P15.1: the entry: %d, not %d", got, word)
	}
}

// goes has a machine free the object by all of its steps from the first one on.
func (k lying) goes(t *testing.T, x *free.Machine, m cells.Cells) {
	t.Helper()
	steps(t, x, m, none, k.load())
	k.is(t, m, k.word())
	k.goesOn(t, x, m)
}

// goesOn does so from the Cas on.
func (k lying) goesOn(t *testing.T, x *free.Machine, m cells.Cells) {
	t.Helper()
	if k.gen == 1000 {
		last(t, x, m, k.cas(), api.Result{})
		k.is(t, m, freed(1000))
		return
	}
	take(t, x, m, k.slot, k.cas())
	k.is(t, m, freed(k.gen+1))
	k.pushes(t, x, m)
}

// pushes does so from the Push on.
func (k lying) pushes(t *testing.T, x *free.Machine, m cells.Cells) {
	t.Helper()
	steps(t, x, m, k.slot, k.loadTop(), k.link())
	last(t, x, m, k.push(), api.Result{})
}

// after are cells behind the free.
func (k lying) after(t *testing.T) *cells.Plain {
	t.Helper()
	m := k.cells(t)
	k.set(m, k.behind())
	if k.gen < 1000 {
		m.Store(linkAt(k.c, k.slot), k.top(0))
		m.Store(stackAt, k.pushed())
	}
	return m
}

// ordinary is an object of which nothing is at an edge.
func ordinary() lying {
	return lying{c: api.Config{Arena: 64, Slots: 5, Threads: 2}, slot: 3, gen: 5, offset: 16, free: []int{4, 1}, tag: 70}
}

// noEntries are words of no entry.
func noEntries() []int {
	return []int{
		wordOf(16, 5) + 8*onePin, wordOf(16, 5) + 15*onePin, wordOf(16, 5) + lock + onePin, wordOf(16, 5) + lock + guard, wordOf(4097, 5), wordOf(16, 1001), wordOf(16, 5) + 1<<50, wordOf(16, 5) + 1<<62,
		freed(5) + 16, freed(5) + onePin, freed(5) + guard, freed(5) + lock, freed(1001), -1, math.MinInt, math.MinInt + wordOf(16, 5), math.MaxInt,
	}
}

// staleWords are of another generation, or of none that lives, or of no entry.
func staleWords() []int {
	return append(noEntries(),
		wordOf(16, 4), wordOf(16, 6), wordOf(16, 0), wordOf(16, 1000), wordOf(16, 4)+lock, wordOf(16, 6)+lock, wordOf(16, 6)+3*onePin, wordOf(16, 4)+7*onePin, wordOf(16, 6)+guard, wordOf(16, 4)+15*guard, wordOf(0, 6),
		freed(0), freed(4), freed(5), freed(6), freed(1000))
}

// waitWords are of an object that is written to, or moved.
func waitWords() []int {
	return []int{wordOf(16, 5) + guard, wordOf(16, 5) + 2*guard, wordOf(16, 5) + 15*guard, wordOf(0, 5) + guard, wordOf(16, 5) + lock, wordOf(8, 5) + lock}
}

// pinnedWords have guards, too.
func pinnedWords() []int {
	var l []int
	for pins := 1; pins <= 7; pins++ {
		for _, guards := range []int{0, 1, 15} {
			l = append(l, wordOf(16, 5)+pins*onePin+guards*guard, wordOf(0, 5)+pins*onePin+guards*guard)
		}
	}
	return l
}

func noHeads() []int {
	return []int{-1, 65, headOf(65, 7), headOf(0, mostTag+1), headOf(1, mostTag+1), math.MinInt, math.MaxInt}
}

func TestExample(t *testing.T) {
	k := ordinary()
	m, x := k.cells(t), k.new()
	before := m.Steps()
	for i := 1; ; i++ {
		r, end := x.Step(m)
		if m.Steps() != before+i {
			t.Errorf("P15.1: example 1: step %d, %d calls", i, m.Steps()-before)
		}
		if end != (i == 5) || r != (api.Result{}) {
			t.Errorf("P15.1: example 1: step %d tells %v, %v", i, r, end)
		}
		if end {
			break
		}
	}
}

// TestSteps frees objects of many kinds, each step told by itself; all else is as it was.
func TestSteps(t *testing.T) {
	wide := api.Config{Arena: 4096, Slots: 64, Threads: 4}
	small := api.Config{Arena: 8, Slots: 1, Threads: 1}
	middle := api.Config{Arena: 64, Slots: 5, Threads: 2}
	for _, k := range []lying{
		ordinary(),
		{c: small},
		{c: small, offset: 7, gen: 998, tag: 1},
		{c: small, gen: 999, tag: mostTag},
		{c: small, gen: 1000},
		{c: wide, slot: 63, offset: 4096, free: []int{0}, tag: mostTag},
		{c: wide, slot: 62, offset: 1001, gen: 77, free: []int{63, 0, 61}, tag: mostTag - 1},
		{c: wide, slot: 0, gen: 1000, free: []int{63, 5}, tag: 8},
		{c: middle, slot: 4, offset: 56, gen: 1, free: []int{0, 1, 2, 3}},
		{c: middle, slot: 0, free: []int{1}, tag: 3},
	} {
		m := k.cells(t)
		k.goes(t, k.new(), m)
		same(t, m, k.after(t))
		if t.Failed() {
			t.Fatalf("P15.1: of %+v", k)
		}
	}
}

// TestUsedUp has a slot of each generation: the last one's is not pushed.
func TestUsedUp(t *testing.T) {
	for gen := range 1001 {
		k := ordinary()
		k.gen = gen
		m, x := k.cells(t), k.new()
		before := m.Steps()
		if r := run(t, x, m); r != (api.Result{}) {
			t.Fatalf("P15.1: of generation %d: %v", gen, r)
		}
		count, top := 5, 4
		if gen == 1000 {
			count, top = 2, 5
		}
		if m.Steps() != before+count || m.Load(stackAt)%1048576 != top {
			t.Fatalf("P15.1: of generation %d: %d calls, the top is %d", gen, m.Steps()-before, m.Load(stackAt)%1048576)
		}
		k.is(t, m, k.behind())
	}
}

// TestPinned has words with pins: that is told, whatever guards there are, too.
func TestPinned(t *testing.T) {
	for _, word := range pinnedWords() {
		k := ordinary()
		m, want := k.cells(t), k.cells(t)
		k.set(m, word)
		last(t, k.new(), m, k.load(), failed(api.ErrPinned))
		k.set(want, word)
		same(t, m, want)
	}
}

// TestWaits has a Free wait for guards, and for the lock, a step a time, till they are gone, or there are pins, or the object is gone.
func TestWaits(t *testing.T) {
	for _, word := range waitWords() {
		k := ordinary()
		m, x := k.cells(t), k.new()
		k.set(m, word)
		for range 10 {
			steps(t, x, m, none, k.load())
		}
		k.is(t, m, word)
		for _, other := range waitWords() {
			k.set(m, other)
			steps(t, x, m, none, k.load())
		}
		k.offset = 8
		k.set(m, k.word())
		k.goes(t, x, m)
		same(t, m, k.after(t))
		for _, stale := range staleWords() {
			endsBehind(t, word, stale, api.ErrStale)
		}
		for _, pinned := range pinnedWords() {
			endsBehind(t, word, pinned, api.ErrPinned)
		}
	}
}

// endsBehind has a Free that waited find a word that ends it.
func endsBehind(t *testing.T, waited int, word int, err api.Errno) {
	t.Helper()
	k := ordinary()
	m, x := k.cells(t), k.new()
	k.set(m, waited)
	steps(t, x, m, none, k.load(), k.load())
	k.set(m, word)
	last(t, x, m, k.load(), failed(err))
	k.is(t, m, word)
}

// TestStale has words that are stale for the handle from the first step on: neither pins nor guards nor the lock are asked for.
func TestStale(t *testing.T) {
	for _, word := range staleWords() {
		k := ordinary()
		m, want := k.cells(t), k.cells(t)
		k.set(m, word)
		last(t, k.new(), m, k.load(), failed(api.ErrStale))
		k.set(want, word)
		same(t, m, want)
	}
}

// TestGenerations has handles of earlier and later generations than the one that lives.
func TestGenerations(t *testing.T) {
	for _, gen := range []int{0, 1, 5, 500, 999, 1000} {
		for _, asked := range []int{0, 1, gen - 1, gen, gen + 1, 1000} {
			if asked < 0 || asked > 1000 {
				continue
			}
			k := ordinary()
			k.gen = gen
			m, x := k.cells(t), free.New(k.c, handleOf(3, asked))
			if asked == gen {
				k.goes(t, x, m)
				continue
			}
			last(t, x, m, k.load(), failed(api.ErrStale))
			same(t, m, k.cells(t))
		}
	}
}

func TestHandlesThatAreNone(t *testing.T) {
	k := ordinary()
	wide := api.Config{Arena: 8, Slots: 64, Threads: 1}
	for _, h := range []int{
		0, 1, 3, -1, 1 << 40 << 1, freed(5) + 3, handleOf(5, 0), handleOf(5, 5), handleOf(63, 5), handleOf(64, 5), handleOf(-1, 5), handleOf(3, 1001), handleOf(3, -1),
		handleOf(3, 5) + 1<<41, handleOf(3, 5) + 1<<62, -handleOf(3, 5), math.MinInt, math.MinInt + handleOf(3, 5), math.MaxInt,
	} {
		m := k.cells(t)
		last(t, free.New(k.c, h), m, "", failed(api.ErrStale))
		same(t, m, k.cells(t))
	}
	last(t, free.New(wide, handleOf(64, 0)), filled(t, wide), "", failed(api.ErrStale))
	for slot := range 64 {
		k := lying{c: wide, slot: slot, gen: 9, free: []int{(slot + 1) % 64}}
		k.goes(t, k.new(), k.cells(t))
	}
}

// TestFreedIsStale frees an object: its handle is stale ever after, that of the slot's next generation is not, once there is an object of it.
func TestFreedIsStale(t *testing.T) {
	for _, gen := range []int{0, 5, 998, 999, 1000} {
		k := ordinary()
		k.gen = gen
		m := k.cells(t)
		k.goes(t, k.new(), m)
		last(t, k.new(), m, k.load(), failed(api.ErrStale))
		if gen == 1000 {
			continue
		}
		next := k
		next.gen = gen + 1
		last(t, next.new(), m, k.load(), failed(api.ErrStale))
		next.free, next.tag = []int{3, 4, 1}, 71
		m = next.cells(t)
		last(t, k.new(), m, k.load(), failed(api.ErrStale))
		next.goes(t, next.new(), m)
		last(t, k.new(), m, k.load(), failed(api.ErrStale))
	}
}

// turnedWords are words that an entry may turn into while it is freed.
func turnedWords() []int {
	l := append(staleWords(), waitWords()...)
	l = append(l, pinnedWords()...)
	return append(l, wordOf(0, 5), wordOf(8, 5), wordOf(17, 5), wordOf(4096, 5))
}

// found is what the first step of a machine tells of a word, and whether the machine goes on to the Cas; it may wait.
func found(word int) (api.Errno, bool) {
	for _, stale := range staleWords() {
		if word == stale {
			return api.ErrStale, false
		}
	}
	if word/onePin%16 > 0 {
		return api.ErrPinned, false
	}
	return api.OK, word/guard%16 == 0 && word/lock%2 == 0
}

// TestTurned has the Cas at 2 be not done: the entry was locked, pinned, guarded, moved, freed, or made anew; 1 comes again.
func TestTurned(t *testing.T) {
	for _, word := range turnedWords() {
		k := ordinary()
		m, x := k.cells(t), k.new()
		steps(t, x, m, none, k.load())
		k.set(m, word)
		steps(t, x, m, none, k.cas())
		k.is(t, m, word)
		err, on := found(word)
		if err != api.OK {
			last(t, x, m, k.load(), failed(err))
			k.is(t, m, word)
			continue
		}
		steps(t, x, m, none, k.load())
		if on {
			k.set(m, wordOf(24, 5))
			steps(t, x, m, none, k.casOf(word))
		}
		k.offset = 40
		k.set(m, k.word())
		k.goes(t, x, m)
		same(t, m, k.after(t))
		if t.Failed() {
			t.Fatalf("P15.1: turned into %d", word)
		}
	}
}

// TestTurnedManyTimes has the Cas be not done again and again: it goes by the last Load each time, of the last generation, too.
func TestTurnedManyTimes(t *testing.T) {
	for _, gen := range []int{0, 5, 999, 1000} {
		k := ordinary()
		k.gen = gen
		m, x := k.cells(t), k.new()
		for i := range 20 {
			steps(t, x, m, none, k.load())
			old := k.word()
			k.offset = i % 7 * 8
			if k.offset == old%1048576 {
				t.Fatal("the entry did not turn")
			}
			k.set(m, k.word())
			steps(t, x, m, none, k.casOf(old))
		}
		k.goes(t, x, m)
	}
}

// TestSameWordAgain has the entry be away between the steps, and back: the Cas is done then.
func TestSameWordAgain(t *testing.T) {
	for _, word := range turnedWords() {
		k := ordinary()
		m, x := k.cells(t), k.new()
		steps(t, x, m, none, k.load())
		k.set(m, word)
		k.set(m, k.word())
		k.goesOn(t, x, m)
		same(t, m, k.after(t))
	}
}

// TestEntryBehindTheCas has the slot's entry turn while that is pushed: nothing asks for it any more.
func TestEntryBehindTheCas(t *testing.T) {
	for _, word := range turnedWords() {
		k := ordinary()
		m, x := k.cells(t), k.new()
		steps(t, x, m, none, k.load())
		take(t, x, m, 3, k.cas())
		k.set(m, word)
		k.pushes(t, x, m)
		k.is(t, m, word)
	}
}

// TestPushAgain has the Push's Cas be not done, as others took slots, or gave them, ahead of it: the slot is given all the while.
func TestPushAgain(t *testing.T) {
	k := ordinary()
	m, x := k.cells(t), k.new()
	steps(t, x, m, none, k.load())
	take(t, x, m, 3, k.cas())
	for i, front := range [][]int{{1}, {}, {0, 2}, {4, 1}, {2}} {
		steps(t, x, m, 3, k.loadTop(), k.link())
		was := k.push()
		k.free, k.tag = front, []int{71, 0, mostTag, 70, mostTag}[i]
		m.Store(stackAt, k.head())
		steps(t, x, m, 3, was)
		if m.Load(stackAt) != k.head() {
			t.Errorf("P15.1: the stack is %d, not %d", m.Load(stackAt), k.head())
		}
	}
	k.pushes(t, x, m)
	if m.Load(stackAt) != headOf(4, 0) || m.Load(linkAt(k.c, 3)) != 3 {
		t.Errorf("P15.1: the stack is %d, the link %d", m.Load(stackAt), m.Load(linkAt(k.c, 3)))
	}
}

// TestPushThatMayNotBe has the stack's word be no head's: the object is freed all the same.
func TestPushThatMayNotBe(t *testing.T) {
	for _, word := range noHeads() {
		k := ordinary()
		m, x := k.cells(t), k.new()
		m.Store(stackAt, word)
		steps(t, x, m, none, k.load())
		take(t, x, m, 3, k.cas())
		last(t, x, m, k.loadTop(), api.Result{})
		k.is(t, m, freed(6))
		// It may turn so between two steps of the Push, too.
		m, x = k.cells(t), k.new()
		steps(t, x, m, none, k.load())
		take(t, x, m, 3, k.cas())
		steps(t, x, m, 3, k.loadTop(), k.link())
		m.Store(stackAt, word)
		steps(t, x, m, 3, k.push())
		last(t, x, m, k.loadTop(), api.Result{})
		if m.Load(stackAt) != word {
			t.Errorf("P15.1: the stack is %d, not %d", m.Load(stackAt), word)
		}
	}
}

// TestNil has machines that are nil, or that New did not make, an m that is nil, and machines that go on behind that as if nothing had been.
func TestNil(t *testing.T) {
	k := ordinary()
	m := k.cells(t)
	last(t, nil, m, "", failed(api.ErrArg))
	last(t, &free.Machine{}, m, "", failed(api.ErrArg))
	same(t, m, k.cells(t))
	nothing := func(x *free.Machine, slot int) {
		t.Helper()
		for range 2 {
			if r, end := x.Step(nil); r != failed(api.ErrArg) || !end {
				t.Errorf("P15.1: a step of a nil m tells %v, %v", r, end)
			}
			gives(t, x, slot)
		}
	}
	nothing(nil, none)
	nothing(&free.Machine{}, none)
	x := k.new()
	nothing(x, none)
	steps(t, x, m, none, k.load())
	nothing(x, none)
	take(t, x, m, 3, k.cas())
	nothing(x, 3)
	steps(t, x, m, 3, k.loadTop())
	nothing(x, 3)
	steps(t, x, m, 3, k.link())
	nothing(x, 3)
	last(t, x, m, k.push(), api.Result{})
	nothing(x, none)
	same(t, m, k.after(t))
	wrong := free.New(k.c, 0)
	nothing(wrong, none)
	last(t, wrong, m, "", failed(api.ErrStale))
	nothing(free.New(api.Config{}, k.handle()), none)
}

// TestWrongConfigs has no step do anything, whatever the handle is.
func TestWrongConfigs(t *testing.T) {
	k := ordinary()
	for _, c := range []api.Config{
		{}, {Arena: 0, Slots: 5, Threads: 2}, {Arena: 4, Slots: 5, Threads: 2}, {Arena: 12, Slots: 5, Threads: 2}, {Arena: -8, Slots: 5, Threads: 2}, {Arena: 4104, Slots: 5, Threads: 2},
		{Arena: 64, Slots: 0, Threads: 2}, {Arena: 64, Slots: -1, Threads: 2}, {Arena: 64, Slots: 65, Threads: 2}, {Arena: 64, Slots: 5}, {Arena: 64, Slots: 5, Threads: -1}, {Arena: 64, Slots: 5, Threads: 5},
		{Arena: math.MinInt, Slots: math.MinInt, Threads: math.MinInt}, {Arena: math.MaxInt, Slots: math.MaxInt, Threads: math.MaxInt},
	} {
		for _, h := range []int{k.handle(), handleOf(0, 0), 0, -1} {
			m, x := k.cells(t), free.New(c, h)
			gives(t, x, none)
			last(t, x, m, "", failed(api.ErrArg))
			same(t, m, k.cells(t))
		}
	}
}

// TestTooFewCells has cells without the slot's entry: they tell 0. Sizes and bytes are not asked for.
func TestTooFewCells(t *testing.T) {
	k := ordinary()
	var noPlain *cells.Plain
	var noAtomic *cells.Atomic
	for _, m := range []cells.Cells{cells.New(1, 64), cells.NewAtomic(entryAt(k.c, 3), 0), noPlain, noAtomic} {
		last(t, k.new(), m, k.load(), failed(api.ErrStale))
		last(t, free.New(k.c, handleOf(3, 0)), m, k.load(), failed(api.ErrStale))
	}
	m := cells.New(entryAt(k.c, 3)+1, 0)
	k.set(m, k.word())
	m.Store(stackAt, k.head())
	k.goes(t, k.new(), m)
	// Cells that are too few behind the first step have no entry any more.
	few, x := cells.New(1, 0), k.new()
	k.set(m, k.word())
	steps(t, x, m, none, k.load())
	steps(t, x, few, none, k.cas())
	last(t, x, few, k.load(), failed(api.ErrStale))
	k.is(t, m, k.word())
	// Those without a stack tell that nothing is free, as often as they are asked.
	x = k.new()
	steps(t, x, m, none, k.load())
	take(t, x, m, 3, k.cas())
	for range 3 {
		steps(t, x, few, 3, k.loadTop(), call("store", linkAt(k.c, 3), 0), call("cas", stackAt, 0, headOf(4, 1)))
	}
}

// TestMachinesAreApart has machines by turns over cells of their own, and three of one handle at a time: each has its own steps.
func TestMachinesAreApart(t *testing.T) {
	k := ordinary()
	other := lying{c: api.Config{Arena: 512, Slots: 9, Threads: 4}, slot: 8, gen: 77, offset: 24}
	m, o, x, y := k.cells(t), other.cells(t), k.new(), other.new()
	steps(t, x, m, none, k.load())
	steps(t, y, o, none, other.load())
	take(t, x, m, 3, k.cas())
	take(t, y, o, 8, other.cas())
	steps(t, x, m, 3, k.loadTop())
	steps(t, y, o, 8, other.loadTop())
	steps(t, x, m, 3, k.link())
	steps(t, y, o, 8, other.link())
	last(t, x, m, k.push(), api.Result{})
	last(t, y, o, other.push(), api.Result{})
	same(t, m, k.after(t))
	same(t, o, other.after(t))

	m, first, second, third := k.cells(t), k.new(), k.new(), k.new()
	steps(t, first, m, none, k.load())
	steps(t, second, m, none, k.load())
	steps(t, third, m, none, k.load())
	take(t, second, m, 3, k.cas())
	steps(t, first, m, none, k.cas())
	steps(t, second, m, 3, k.loadTop())
	last(t, first, m, k.load(), failed(api.ErrStale))
	steps(t, second, m, 3, k.link())
	steps(t, third, m, none, k.cas())
	last(t, second, m, k.push(), api.Result{})
	last(t, third, m, k.load(), failed(api.ErrStale))
	same(t, m, k.after(t))
}
