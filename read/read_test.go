package read_test

import (
	"math"
	"slices"
	"strings"
	"testing"

	"sidings/api"
	"sidings/cells"
	"sidings/read"
)

// lying is an object that lies in the arena.
type lying struct {
	c      api.Config
	slot   int
	gen    int
	offset int
	size   int
	held   int // pins and guards
}

func (k lying) cells(t *testing.T) *cells.Plain {
	t.Helper()
	m := filled(t, k.c)
	for s := range k.c.Slots {
		m.Store(entryAt(k.c, s), wordOf(0, 500))
		m.Store(sizeAt(k.c, s), 4000)
	}
	m.Store(entryAt(k.c, k.slot), k.word())
	m.Store(sizeAt(k.c, k.slot), k.size)
	return m
}

func (k lying) word() int                 { return wordOf(k.offset, k.gen) + k.held }
func (k lying) handle() int               { return handleOf(k.slot, k.gen) }
func (k lying) new(off int) *read.Machine { return read.New(k.c, k.handle(), off) }
func (k lying) loadEntry() string         { return call("load", entryAt(k.c, k.slot)) }
func (k lying) loadSize() string          { return call("load", sizeAt(k.c, k.slot)) }
func (k lying) loadByte(off int) string   { return call("byte", k.offset+off) }

// set sets the object's entry.
func (k lying) set(m cells.Cells, word int) { m.Store(entryAt(k.c, k.slot), word) }

// reads has a Read of the cells tell the byte at off, by all of its steps from the first one on.
func (k lying) reads(t *testing.T, x *read.Machine, m cells.Cells, off int) {
	t.Helper()
	steps(t, x, m, k.loadEntry(), k.loadSize(), k.loadByte(off))
	last(t, x, m, k.loadEntry(), found(byteOf(k.offset+off)))
}

// ordinary is an object of which nothing is at an edge.
func ordinary() lying {
	return lying{c: api.Config{Arena: 64, Slots: 5, Threads: 2}, slot: 3, gen: 5, offset: 16, size: 12}
}

// noEntries are words of no entry.
func noEntries() []int {
	return []int{
		wordOf(16, 5) + 8*pin, wordOf(16, 5) + lock + pin, wordOf(16, 5) + lock + guard, wordOf(4097, 5), wordOf(16, 1001), wordOf(16, 5) + 1<<50, wordOf(16, 5) + 1<<62,
		freed(5) + 16, freed(5) + pin, freed(5) + guard, freed(5) + lock, freed(1001), -1, math.MinInt, math.MinInt + wordOf(16, 5), math.MaxInt,
	}
}

func TestExample(t *testing.T) {
	k := ordinary()
	k.size = 4
	m, x := k.cells(t), k.new(4)
	before := m.Steps()
	for i := range 3 {
		r, end := x.Step(m)
		if end != (i == 2) || end && r != failed(api.ErrRange) || !end && r != (api.Result{}) || m.Steps() != before+i+1 {
			t.Errorf("P12.1: example 1: step %d tells %v, %v", i+1, r, end)
		}
	}
}

// someObjects are objects of many kinds.
func someObjects() []lying {
	wide := api.Config{Arena: 4096, Slots: 64, Threads: 4}
	small := api.Config{Arena: 8, Slots: 1, Threads: 1}
	middle := api.Config{Arena: 64, Slots: 5, Threads: 2}
	return []lying{
		ordinary(),
		{c: small, size: 1},
		{c: small, size: 8, gen: 1000},
		{c: small, size: 1, offset: 7, gen: 999},
		{c: wide, slot: 63, size: 256, offset: 4096 - 256},
		{c: wide, slot: 62, size: 255, offset: 1001, gen: 77},
		{c: wide, slot: 0, size: 9, offset: 4080, gen: 1},
		{c: middle, slot: 4, size: 8, offset: 56},
		{c: middle, slot: 0, size: 64},
		{c: middle, slot: 2, size: 10, offset: 8, held: pin},
		{c: middle, slot: 2, size: 10, offset: 8, held: 7 * pin},
		{c: middle, slot: 2, size: 10, offset: 8, held: guard},
		{c: middle, slot: 2, size: 10, offset: 8, held: 15*guard + 7*pin},
	}
}

// TestSteps reads bytes from the first to the last one, each step told by itself; nothing is changed.
func TestSteps(t *testing.T) {
	for _, k := range someObjects() {
		for _, off := range []int{0, 1, k.size / 2, k.size - 2, k.size - 1} {
			if off < 0 || off >= k.size {
				continue
			}
			m := k.cells(t)
			k.reads(t, k.new(off), m, off)
			same(t, m, k.cells(t))
			if t.Failed() {
				t.Fatalf("P12.1: of %+v at %d", k, off)
			}
		}
	}
}

// TestOutside reads just outside, and far.
func TestOutside(t *testing.T) {
	for _, k := range someObjects() {
		for _, off := range []int{-1, -2, -k.size, -k.offset - 1, k.size, k.size + 1, k.size + 8, 4096, 1 << 32, -1 << 32, math.MinInt, math.MaxInt} {
			m, x := k.cells(t), k.new(off)
			steps(t, x, m, k.loadEntry(), k.loadSize())
			last(t, x, m, k.loadEntry(), failed(api.ErrRange))
			same(t, m, k.cells(t))
			if t.Failed() {
				t.Fatalf("P12.1: of %+v at %d", k, off)
			}
		}
	}
}

// TestSizesThatAreNone has Sizes that no object has: the place is held against the number that is there.
func TestSizesThatAreNone(t *testing.T) {
	k := ordinary()
	for _, size := range []int{0, -1, -12, -1 << 40} {
		for _, off := range []int{0, 1, -1, math.MinInt, math.MaxInt} {
			m, x := k.cells(t), k.new(off)
			m.Store(sizeAt(k.c, k.slot), size)
			steps(t, x, m, k.loadEntry(), k.loadSize())
			last(t, x, m, k.loadEntry(), failed(api.ErrRange))
		}
	}
	// Less 1, the least number of all goes around to the greatest one (R7): no place from 0 on is outside.
	m, x := k.cells(t), k.new(4)
	m.Store(sizeAt(k.c, k.slot), math.MinInt)
	k.reads(t, x, m, 4)
	for _, off := range []int{47, 48, 100, 4999, 1 << 40} {
		m, x := k.cells(t), k.new(off)
		m.Store(sizeAt(k.c, k.slot), off+1)
		want := 0 // there are no bytes behind the arena
		if off == 47 {
			want = byteOf(63)
		}
		steps(t, x, m, k.loadEntry(), k.loadSize(), k.loadByte(off))
		last(t, x, m, k.loadEntry(), found(want))
	}
}

// TestLocked waits for the lock, a step a time.
func TestLocked(t *testing.T) {
	for _, off := range []int{0, 11, 12, -1} {
		k := ordinary()
		m, x := k.cells(t), k.new(off)
		k.set(m, k.word()+lock)
		for range 10 {
			steps(t, x, m, k.loadEntry())
		}
		k.offset = 8
		k.set(m, k.word())
		if off == 0 || off == 11 {
			k.reads(t, x, m, off)
			continue
		}
		steps(t, x, m, k.loadEntry(), k.loadSize())
		last(t, x, m, k.loadEntry(), failed(api.ErrRange))
	}
	for _, word := range append(noEntries(), freed(5), freed(6), wordOf(16, 6)) {
		k := ordinary()
		m, x := k.cells(t), k.new(0)
		k.set(m, k.word()+lock)
		steps(t, x, m, k.loadEntry(), k.loadEntry())
		k.set(m, word)
		last(t, x, m, k.loadEntry(), failed(api.ErrStale))
	}
}

// staleWords are of another generation, or of none that lives, or of no entry.
func staleWords() []int {
	return append(noEntries(),
		wordOf(16, 4), wordOf(16, 6), wordOf(16, 0), wordOf(16, 1000), wordOf(16, 4)+lock, wordOf(16, 6)+lock, wordOf(16, 6)+pin, wordOf(0, 6),
		freed(0), freed(4), freed(5), freed(6), freed(1000))
}

// TestStale has words that are stale for the handle from the first step on: neither the lock nor the place is asked for.
func TestStale(t *testing.T) {
	for _, word := range staleWords() {
		for _, off := range []int{0, -1, 12, math.MaxInt} {
			k := ordinary()
			m := k.cells(t)
			k.set(m, word)
			last(t, k.new(off), m, k.loadEntry(), failed(api.ErrStale))
			want := k.cells(t)
			k.set(want, word)
			same(t, m, want)
		}
	}
}

// TestGenerations has handles of all generations near the one that lives.
func TestGenerations(t *testing.T) {
	for _, gen := range []int{0, 1, 5, 500, 999, 1000} {
		for _, asked := range []int{0, 1, gen - 1, gen, gen + 1, 1000} {
			if asked < 0 || asked > 1000 {
				continue
			}
			k := ordinary()
			k.gen = gen
			m, x := k.cells(t), read.New(k.c, handleOf(3, asked), 2)
			if asked == gen {
				k.reads(t, x, m, 2)
				continue
			}
			last(t, x, m, k.loadEntry(), failed(api.ErrStale))
		}
	}
}

func TestHandlesThatAreNone(t *testing.T) {
	k := ordinary()
	for _, h := range []int{
		0, 1, 3, -1, 1 << 40 << 1, freed(5) + 3, handleOf(5, 0), handleOf(5, 5), handleOf(63, 5), handleOf(64, 5), handleOf(-1, 5), handleOf(3, 1001), handleOf(3, -1),
		handleOf(3, 5) + 1<<41, handleOf(3, 5) + 1<<62, -handleOf(3, 5), math.MinInt, math.MinInt + handleOf(3, 5), math.MaxInt,
	} {
		for _, off := range []int{0, -1, 12} {
			m := k.cells(t)
			last(t, read.New(k.c, h, off), m, "", failed(api.ErrStale))
			same(t, m, k.cells(t))
		}
	}
	wide := api.Config{Arena: 8, Slots: 64, Threads: 1}
	last(t, read.New(wide, handleOf(64, 0), 0), filled(t, wide), "", failed(api.ErrStale))
	for slot := range 64 {
		k := lying{c: wide, slot: slot, gen: 9, size: 8}
		k.reads(t, k.new(7), k.cells(t), 7)
	}
}

// turns are what an entry may turn into while it is read, and the error of the Load that finds it then.
func turns(k lying) map[int]api.Errno {
	l := map[int]api.Errno{k.word() + lock: api.OK}
	for _, offset := range []int{0, 8, k.offset - 1, k.offset + 1, 24, 4096} {
		l[wordOf(offset, k.gen)] = api.OK
		l[wordOf(offset, k.gen)+lock] = api.OK
		l[wordOf(offset, k.gen)+2*pin+guard] = api.OK
		l[wordOf(offset, k.gen+1)] = api.ErrStale
	}
	for _, word := range staleWords() {
		l[word] = api.ErrStale
	}
	return l
}

// TestTurned has an object be locked, freed, moved, or made anew ahead of each step but the first: the last Load finds that, and the Read goes again.
func TestTurned(t *testing.T) {
	for word, err := range turns(ordinary()) {
		for at := 1; at <= 3; at++ {
			k := ordinary()
			m, x := k.cells(t), k.new(4)
			for i, want := range []string{k.loadEntry(), k.loadSize(), k.loadByte(4)} {
				if i == at {
					k.set(m, word)
				}
				steps(t, x, m, want)
			}
			k.set(m, word)
			steps(t, x, m, k.loadEntry())
			if err != api.OK {
				last(t, x, m, k.loadEntry(), failed(err))
				continue
			}
			k.offset = 24
			k.set(m, k.word())
			k.reads(t, x, m, 4)
			if t.Failed() {
				t.Fatalf("P12.1: turned into %d ahead of step %d", word, at+1)
			}
		}
	}
}

// TestTurnedOutside is the same of a place outside.
func TestTurnedOutside(t *testing.T) {
	for word, err := range turns(ordinary()) {
		for at := 1; at <= 2; at++ {
			k := ordinary()
			m, x := k.cells(t), k.new(12)
			steps(t, x, m, k.loadEntry())
			if at == 1 {
				k.set(m, word)
			}
			steps(t, x, m, k.loadSize())
			k.set(m, word)
			steps(t, x, m, k.loadEntry())
			if err != api.OK {
				last(t, x, m, k.loadEntry(), failed(err))
				continue
			}
			k.set(m, k.word())
			steps(t, x, m, k.loadEntry(), k.loadSize())
			last(t, x, m, k.loadEntry(), failed(api.ErrRange))
		}
	}
}

// TestNothingIsKept has the object be another one each time that the Read goes again: neither the error nor the byte is kept.
func TestNothingIsKept(t *testing.T) {
	k := ordinary()
	k.size = 4
	m, x := k.cells(t), k.new(6)
	steps(t, x, m, k.loadEntry(), k.loadSize())
	k.set(m, k.word()+lock)
	steps(t, x, m, k.loadEntry(), k.loadEntry()) // ErrRange was kept
	k.offset, k.size = 40, 7
	k.set(m, k.word())
	m.Store(sizeAt(k.c, k.slot), k.size)
	steps(t, x, m, k.loadEntry(), k.loadSize(), k.loadByte(6))
	k.set(m, wordOf(8, k.gen))
	steps(t, x, m, k.loadEntry()) // a byte was
	k.offset, k.size = 8, 6
	m.Store(sizeAt(k.c, k.slot), k.size)
	steps(t, x, m, k.loadEntry(), k.loadSize())
	last(t, x, m, k.loadEntry(), failed(api.ErrRange))
	k = ordinary()
	m, x = k.cells(t), k.new(6)
	steps(t, x, m, k.loadEntry(), k.loadSize(), k.loadByte(6))
	k.set(m, freed(6))
	steps(t, x, m, k.loadEntry())
	last(t, x, m, k.loadEntry(), failed(api.ErrStale))
}

// TestWhatDoesNotMind has pins and guards come and go, the object be away and back again, and its byte and Size change behind their Loads.
func TestWhatDoesNotMind(t *testing.T) {
	for _, held := range []int{pin, 7 * pin, guard, 15 * guard, 7*pin + 15*guard} {
		k := ordinary()
		m, x := k.cells(t), k.new(6)
		steps(t, x, m, k.loadEntry())
		k.set(m, k.word()+held)
		steps(t, x, m, k.loadSize(), k.loadByte(6))
		last(t, x, m, k.loadEntry(), found(byteOf(22)))
		k.held = held
		m, x = k.cells(t), k.new(6)
		steps(t, x, m, k.loadEntry(), k.loadSize(), k.loadByte(6))
		k.set(m, k.word()-held)
		last(t, x, m, k.loadEntry(), found(byteOf(22)))
	}
	for _, away := range []int{ordinary().word() + lock, wordOf(8, 5), freed(6), wordOf(16, 6), -1} {
		k := ordinary()
		m, x := k.cells(t), k.new(6)
		steps(t, x, m, k.loadEntry())
		k.set(m, away)
		steps(t, x, m, k.loadSize(), k.loadByte(6))
		m.SetByte(22, 200)
		m.Store(sizeAt(k.c, 3), 1)
		k.set(m, k.word())
		last(t, x, m, k.loadEntry(), found(byteOf(22)))
	}
}

// TestTheByteIsThatOfItsStep has the byte be set between steps.
func TestTheByteIsThatOfItsStep(t *testing.T) {
	for _, b := range []int{0, 1, 127, 128, 255} {
		k := ordinary()
		m, x := k.cells(t), k.new(11)
		steps(t, x, m, k.loadEntry(), k.loadSize())
		m.SetByte(27, b)
		steps(t, x, m, k.loadByte(11))
		m.SetByte(27, 99)
		last(t, x, m, k.loadEntry(), found(b))
	}
}

// TestNil has machines that are nil, or that New did not make, an m that is nil, and machines that go on behind that as if nothing had been.
func TestNil(t *testing.T) {
	k := ordinary()
	m := k.cells(t)
	last(t, nil, m, "", failed(api.ErrArg))
	last(t, &read.Machine{}, m, "", failed(api.ErrArg))
	x := k.new(3)
	for _, want := range []string{k.loadEntry(), k.loadSize(), k.loadByte(3)} {
		for range 2 {
			if r, end := x.Step(nil); r != failed(api.ErrArg) || !end {
				t.Errorf("P12.1: a step of a nil m tells %v, %v", r, end)
			}
		}
		steps(t, x, m, want)
	}
	x.Step(nil)
	last(t, x, m, k.loadEntry(), found(byteOf(19)))
	for _, y := range []*read.Machine{nil, {}, k.new(99), read.New(k.c, 0, 0), read.New(api.Config{}, k.handle(), 0), x} {
		if r, end := y.Step(nil); r != failed(api.ErrArg) || !end {
			t.Errorf("P12.1: a step of a nil m tells %v, %v", r, end)
		}
	}
	none := read.New(k.c, 0, 0)
	none.Step(nil)
	last(t, none, m, "", failed(api.ErrStale))
	same(t, m, k.cells(t))
}

// TestWrongConfigs has no step do anything, whatever the handle is.
func TestWrongConfigs(t *testing.T) {
	k := ordinary()
	for _, c := range []api.Config{
		{}, {Arena: 0, Slots: 5, Threads: 2}, {Arena: 4, Slots: 5, Threads: 2}, {Arena: 12, Slots: 5, Threads: 2}, {Arena: -8, Slots: 5, Threads: 2}, {Arena: 4104, Slots: 5, Threads: 2},
		{Arena: 64, Slots: 0, Threads: 2}, {Arena: 64, Slots: -1, Threads: 2}, {Arena: 64, Slots: 65, Threads: 2}, {Arena: 64, Slots: 5}, {Arena: 64, Slots: 5, Threads: -1}, {Arena: 64, Slots: 5, Threads: 5},
		{Arena: math.MinInt, Slots: math.MinInt, Threads: math.MinInt}, {Arena: math.MaxInt, Slots: math.MaxInt, Threads: math.MaxInt},
	} {
		for _, h := range []int{k.handle(), handleOf(0, 0), 0, -1} {
			m := k.cells(t)
			last(t, read.New(c, h, 0), m, "", failed(api.ErrArg))
			same(t, m, k.cells(t))
		}
	}
}

// TestTooFewCells has cells without the slot's words, or without bytes: they tell 0.
func TestTooFewCells(t *testing.T) {
	k := ordinary()
	var none *cells.Plain
	var noAtomic *cells.Atomic
	for _, m := range []cells.Cells{cells.New(1, 64), cells.NewAtomic(entryAt(k.c, 3), 0), none, noAtomic} {
		last(t, k.new(0), m, k.loadEntry(), failed(api.ErrStale))
		last(t, read.New(k.c, handleOf(3, 0), 0), m, k.loadEntry(), failed(api.ErrStale))
	}
	size := cells.New(sizeAt(k.c, 3), 64)
	k.set(size, k.word())
	x := k.new(0)
	steps(t, x, size, k.loadEntry(), k.loadSize())
	last(t, x, size, k.loadEntry(), failed(api.ErrRange))
	bytes := cells.New(sizeAt(k.c, 3)+1, 20)
	k.set(bytes, k.word())
	bytes.Store(sizeAt(k.c, 3), k.size)
	bytes.SetByte(19, 77)
	for off, want := range map[int]int{3: 77, 4: 0, 11: 0} {
		x := k.new(off)
		steps(t, x, bytes, k.loadEntry(), k.loadSize(), k.loadByte(off))
		last(t, x, bytes, k.loadEntry(), found(want))
	}
}

// TestWritesNothing has many Reads, of what there is and what there is not, call Load and Byte alone.
func TestWritesNothing(t *testing.T) {
	for _, k := range someObjects() {
		for _, word := range append(staleWords(), k.word(), k.word()-k.held+lock) {
			for off := -1; off <= k.size; off += 1 + k.size/3 {
				m := k.cells(t)
				k.set(m, word)
				n, before, x := &noted{Cells: m}, m.Copy(), k.new(off)
				for range 6 {
					x.Step(n)
				}
				same(t, m, before)
				if slices.ContainsFunc(n.calls, func(c string) bool { return !strings.HasPrefix(c, "load ") && !strings.HasPrefix(c, "byte ") }) {
					t.Fatalf("P12.2: a Read calls %v", n.calls)
				}
			}
		}
	}
}
