package write_test

import (
	"math"
	"testing"

	"sidings/api"
	"sidings/cells"
	"sidings/write"
)

// lying is an object that lies in the arena.
type lying struct {
	c      api.Config
	slot   int
	gen    int
	offset int
	size   int
	held   int // pins and guards of others
}

func (k lying) cells(t *testing.T) *cells.Plain {
	t.Helper()
	m := filled(t, k.c)
	for s := range k.c.Slots {
		m.Store(entryAt(k.c, s), wordOf(0, 500))
		m.Store(sizeAt(k.c, s), 4000)
	}
	m.Store(entryAt(k.c, k.slot), k.word())
	m.Store(sizeAt(k.c, k.slot), k.size)
	return m
}

func (k lying) word() int                         { return wordOf(k.offset, k.gen) + k.held }
func (k lying) handle() int                       { return handleOf(k.slot, k.gen) }
func (k lying) new(off int, b int) *write.Machine { return write.New(k.c, k.handle(), off, b) }
func (k lying) loadEntry() string                 { return call("load", entryAt(k.c, k.slot)) }
func (k lying) loadSize() string                  { return call("load", sizeAt(k.c, k.slot)) }
func (k lying) setByte(off int, b int) string     { return call("setbyte", k.offset+off, b) }
func (k lying) raise(word int) string {
	return call("cas", entryAt(k.c, k.slot), word, word+guard)
}
func (k lying) lower(word int) string {
	return call("cas", entryAt(k.c, k.slot), word, word-guard)
}

// set sets the object's entry.
func (k lying) set(m cells.Cells, word int) { m.Store(entryAt(k.c, k.slot), word) }

// is has the object's entry be this.
func (k lying) is(t *testing.T, m cells.Cells, word int) {
	t.Helper()
	if got := m.Load(entryAt(k.c, k.slot)); got != word {
		t.Errorf("P13.1: the entry: %d, not %d", got, word)
	}
}

// begins has a Write take its guard, by its first steps.
func (k lying) begins(t *testing.T, x *write.Machine, m cells.Cells) {
	t.Helper()
	bare(t, x, m, k.loadEntry())
	take(t, x, m, k.raise(k.word()))
	k.is(t, m, k.word()+guard)
}

// writes has a Write put b at off, by all of its steps from the first one on.
func (k lying) writes(t *testing.T, x *write.Machine, m cells.Cells, off int, b int) {
	t.Helper()
	k.begins(t, x, m)
	guarded(t, x, m, k.loadSize(), k.setByte(off, b))
	k.ends(t, x, m, api.OK)
}

// refuses has a Write find that its place is outside, by all of its steps from the first one on.
func (k lying) refuses(t *testing.T, x *write.Machine, m cells.Cells) {
	t.Helper()
	k.begins(t, x, m)
	guarded(t, x, m, k.loadSize())
	k.ends(t, x, m, api.ErrRange)
}

// ends has a Write give its guard back, by its last steps.
func (k lying) ends(t *testing.T, x *write.Machine, m cells.Cells, err api.Errno) {
	t.Helper()
	guarded(t, x, m, k.loadEntry())
	last(t, x, m, k.lower(k.word()+guard), failed(err))
	k.is(t, m, k.word())
}

// ordinary is an object of which nothing is at an edge.
func ordinary() lying {
	return lying{c: api.Config{Arena: 64, Slots: 5, Threads: 2}, slot: 3, gen: 5, offset: 16, size: 12}
}

// noEntries are words of no entry.
func noEntries() []int {
	return []int{
		wordOf(16, 5) + 8*pin, wordOf(16, 5) + lock + pin, wordOf(16, 5) + lock + guard, wordOf(4097, 5), wordOf(16, 1001), wordOf(16, 5) + 1<<50, wordOf(16, 5) + 1<<62,
		freed(5) + 16, freed(5) + pin, freed(5) + guard, freed(5) + lock, freed(1001), -1, math.MinInt, math.MinInt + wordOf(16, 5), math.MaxInt,
	}
}

// staleWords are of another generation, or of none that lives, or of no entry.
func staleWords() []int {
	return append(noEntries(),
		wordOf(16, 4), wordOf(16, 6), wordOf(16, 0), wordOf(16, 1000), wordOf(16, 4)+lock, wordOf(16, 6)+lock, wordOf(16, 6)+pin, wordOf(16, 6)+15*guard, wordOf(0, 6),
		freed(0), freed(4), freed(5), freed(6), freed(1000))
}

func TestExample(t *testing.T) {
	k := ordinary()
	k.size = 4
	m, x := k.cells(t), k.new(3, 77)
	before := m.Steps()
	for i := range 6 {
		r, end := x.Step(m)
		if end != (i == 5) || r != (api.Result{}) || m.Steps() != before+i+1 {
			t.Errorf("P13.1: example 1: step %d tells %v, %v", i+1, r, end)
		}
	}
	if m.Byte(19) != 77 {
		t.Errorf("P13.1: example 1: the byte is %d", m.Byte(19))
	}
}

// someObjects are objects of many kinds.
func someObjects() []lying {
	wide := api.Config{Arena: 4096, Slots: 64, Threads: 4}
	small := api.Config{Arena: 8, Slots: 1, Threads: 1}
	middle := api.Config{Arena: 64, Slots: 5, Threads: 2}
	return []lying{
		ordinary(),
		{c: small, size: 1},
		{c: small, size: 8, gen: 1000},
		{c: small, size: 1, offset: 7, gen: 999},
		{c: wide, slot: 63, size: 256, offset: 4096 - 256},
		{c: wide, slot: 62, size: 255, offset: 1001, gen: 77},
		{c: wide, slot: 0, size: 9, offset: 4080, gen: 1},
		{c: middle, slot: 4, size: 8, offset: 56},
		{c: middle, slot: 0, size: 64},
		{c: middle, slot: 2, size: 10, offset: 8, held: pin},
		{c: middle, slot: 2, size: 10, offset: 8, held: 7 * pin},
		{c: middle, slot: 2, size: 10, offset: 8, held: guard},
		{c: middle, slot: 2, size: 10, offset: 8, held: 14 * guard},
		{c: middle, slot: 2, size: 10, offset: 8, held: 14*guard + 7*pin},
	}
}

// TestSteps writes bytes from the first to the last one, each step told by itself; all else is as it was.
func TestSteps(t *testing.T) {
	for _, k := range someObjects() {
		for _, off := range []int{0, 1, k.size / 2, k.size - 2, k.size - 1} {
			if off < 0 || off >= k.size {
				continue
			}
			m, want := k.cells(t), k.cells(t)
			k.writes(t, k.new(off, 0), m, off, 0)
			want.SetByte(k.offset+off, 0)
			same(t, m, want)
			if t.Failed() {
				t.Fatalf("P13.1: of %+v at %d", k, off)
			}
		}
	}
}

// TestBytes writes bytes that are none: their lowest eight bits are what is there then.
func TestBytes(t *testing.T) {
	for b, there := range map[int]int{
		0: 0, 1: 1, 127: 127, 128: 128, 255: 255, 256: 0, 257: 1, 511: 255, 1 << 40: 0, 1<<40 + 9: 9,
		-1: 255, -2: 254, -128: 128, -255: 1, -256: 0, -257: 255, math.MaxInt: 255, math.MinInt: 0, math.MinInt + 7: 7,
	} {
		k := ordinary()
		m, want := k.cells(t), k.cells(t)
		k.writes(t, k.new(5, b), m, 5, b)
		want.SetByte(21, there)
		same(t, m, want)
		if m.Byte(21) != there {
			t.Errorf("P13.1: of %d: %d, not %d", b, m.Byte(21), there)
		}
	}
}

// TestOutside writes just outside, and far: the error is kept till the guard is away.
func TestOutside(t *testing.T) {
	for _, k := range someObjects() {
		for _, off := range []int{-1, -2, -k.size, -k.offset - 1, k.size, k.size + 1, k.size + 8, 4096, 1 << 32, -1 << 32, math.MinInt, math.MaxInt} {
			m := k.cells(t)
			k.refuses(t, k.new(off, 0), m)
			same(t, m, k.cells(t))
			if t.Failed() {
				t.Fatalf("P13.1: of %+v at %d", k, off)
			}
		}
	}
}

// TestSizesThatAreNone has Sizes that no object has: the place is held against the number that is there.
func TestSizesThatAreNone(t *testing.T) {
	k := ordinary()
	for _, size := range []int{0, -1, -12, -1 << 40, math.MinInt + 1} {
		for _, off := range []int{0, 1, -1, math.MinInt, math.MaxInt} {
			m := k.cells(t)
			m.Store(sizeAt(k.c, k.slot), size)
			k.refuses(t, k.new(off, 0), m)
		}
	}
	// Less 1, the least number of all goes around to the greatest one (R7): no place from 0 on is outside.
	m := k.cells(t)
	m.Store(sizeAt(k.c, k.slot), math.MinInt)
	k.writes(t, k.new(4, 200), m, 4, 200)
	for _, off := range []int{47, 48, 100, 4999, 1 << 40} {
		m, want := k.cells(t), k.cells(t)
		m.Store(sizeAt(k.c, k.slot), off+1)
		want.Store(sizeAt(k.c, k.slot), off+1)
		want.SetByte(16+off, 200) // there are no bytes behind the arena
		k.writes(t, k.new(off, 200), m, off, 200)
		same(t, m, want)
	}
	// The sum of both goes around, too (R7), to where there is no byte.
	m = k.cells(t)
	m.Store(sizeAt(k.c, k.slot), math.MinInt)
	x := k.new(math.MaxInt, 200)
	k.begins(t, x, m)
	guarded(t, x, m, k.loadSize(), call("setbyte", math.MinInt+15, 200))
	k.ends(t, x, m, api.OK)
}

// full are words of an entry that have no guard to give.
func full(k lying) []int {
	return []int{k.word() + lock, k.word() + 15*guard, k.word() + 15*guard + pin, k.word() + 15*guard + 7*pin}
}

// TestWaits waits for the lock, and for one of 15 guards, a step a time; what comes then is what counts.
func TestWaits(t *testing.T) {
	for _, word := range full(ordinary()) {
		for _, off := range []int{0, 11, 12, -1} {
			k := ordinary()
			m, x := k.cells(t), k.new(off, 88)
			k.set(m, word)
			for range 10 {
				bare(t, x, m, k.loadEntry())
			}
			k.is(t, m, word)
			k.offset = 8
			k.set(m, k.word())
			if off == 0 || off == 11 {
				k.writes(t, x, m, off, 88)
				continue
			}
			k.refuses(t, x, m)
		}
		for _, other := range full(ordinary()) {
			k := ordinary()
			m, x := k.cells(t), k.new(2, 88)
			k.set(m, word)
			bare(t, x, m, k.loadEntry())
			k.set(m, other)
			bare(t, x, m, k.loadEntry())
			k.held = 14 * guard
			k.set(m, k.word())
			k.writes(t, x, m, 2, 88)
		}
		for _, other := range staleWords() {
			k := ordinary()
			m, x := k.cells(t), k.new(0, 88)
			k.set(m, word)
			bare(t, x, m, k.loadEntry(), k.loadEntry())
			k.set(m, other)
			last(t, x, m, k.loadEntry(), failed(api.ErrStale))
		}
	}
}

// TestStale has words that are stale for the handle from the first step on: neither the lock, nor guards, nor the place is asked for.
func TestStale(t *testing.T) {
	for _, word := range staleWords() {
		for _, off := range []int{0, -1, 12, math.MaxInt} {
			k := ordinary()
			m, want := k.cells(t), k.cells(t)
			k.set(m, word)
			last(t, k.new(off, 0), m, k.loadEntry(), failed(api.ErrStale))
			k.set(want, word)
			same(t, m, want)
		}
	}
}

// TestGenerations has handles of earlier and later generations than the one that lives.
func TestGenerations(t *testing.T) {
	for _, gen := range []int{0, 1, 5, 500, 999, 1000} {
		for _, asked := range []int{0, 1, gen - 1, gen, gen + 1, 1000} {
			if asked < 0 || asked > 1000 {
				continue
			}
			k := ordinary()
			k.gen = gen
			m, x := k.cells(t), write.New(k.c, handleOf(3, asked), 2, 0)
			if asked == gen {
				k.writes(t, x, m, 2, 0)
				continue
			}
			last(t, x, m, k.loadEntry(), failed(api.ErrStale))
			same(t, m, k.cells(t))
		}
	}
}

func TestHandlesThatAreNone(t *testing.T) {
	k := ordinary()
	for _, h := range []int{
		0, 1, 3, -1, 1 << 40 << 1, freed(5) + 3, handleOf(5, 0), handleOf(5, 5), handleOf(63, 5), handleOf(64, 5), handleOf(-1, 5), handleOf(3, 1001), handleOf(3, -1),
		handleOf(3, 5) + 1<<41, handleOf(3, 5) + 1<<62, -handleOf(3, 5), math.MinInt, math.MinInt + handleOf(3, 5), math.MaxInt,
	} {
		for _, off := range []int{0, -1, 12} {
			m := k.cells(t)
			last(t, write.New(k.c, h, off, 0), m, "", failed(api.ErrStale))
			same(t, m, k.cells(t))
		}
	}
	wide := api.Config{Arena: 8, Slots: 64, Threads: 1}
	last(t, write.New(wide, handleOf(64, 0), 0, 0), filled(t, wide), "", failed(api.ErrStale))
	for slot := range 64 {
		k := lying{c: wide, slot: slot, gen: 9, size: 8}
		k.writes(t, k.new(7, slot), k.cells(t), 7, slot)
	}
}

// turns are what an entry may turn into behind the first step, and the error of the Load that finds it then.
func turns(k lying) map[int]api.Errno {
	l := map[int]api.Errno{}
	for _, word := range full(k) {
		l[word] = api.OK
	}
	for _, offset := range []int{0, 8, k.offset - 1, k.offset, k.offset + 1, 24, 4096} {
		for _, held := range []int{lock, guard, pin, 2*pin + 3*guard, 14 * guard, 15 * guard} {
			l[wordOf(offset, k.gen)+held] = api.OK
		}
	}
	for _, word := range staleWords() {
		l[word] = api.ErrStale
	}
	return l
}

// TestTurnedAheadOfTheGuard has the Cas at 2 be not done: the entry was locked, guarded, pinned, freed, moved, or made anew; 1 comes again.
func TestTurnedAheadOfTheGuard(t *testing.T) {
	for word, err := range turns(ordinary()) {
		for _, off := range []int{4, 12} {
			k := ordinary()
			m, x := k.cells(t), k.new(off, 99)
			bare(t, x, m, k.loadEntry())
			k.set(m, word)
			bare(t, x, m, k.raise(k.word()))
			k.is(t, m, word)
			if err != api.OK {
				last(t, x, m, k.loadEntry(), failed(err))
				k.is(t, m, word)
				continue
			}
			bare(t, x, m, k.loadEntry())
			if word/lock%2 == 1 || guardsOf(word) == 15 {
				bare(t, x, m, k.loadEntry())
			} else {
				k.set(m, k.word()+5*pin)
				bare(t, x, m, k.raise(word))
			}
			k.offset, k.held = 40, guard
			k.set(m, k.word())
			if off == 4 {
				k.writes(t, x, m, 4, 99)
			} else {
				k.refuses(t, x, m)
			}
			if t.Failed() {
				t.Fatalf("P13.1: turned into %d ahead of step 2", word)
			}
		}
	}
}

// TestTheGuardIsOfTheLastLoad has the Cas at 2 be not done many times, and the object lie elsewhere each time.
func TestTheGuardIsOfTheLastLoad(t *testing.T) {
	k := ordinary()
	m, x := k.cells(t), k.new(6, 3)
	for i := range 20 {
		bare(t, x, m, k.loadEntry())
		old := k.word()
		k.offset, k.held = i%7*8, i%15*guard+i%8*pin
		k.set(m, k.word())
		if k.word() == old {
			t.Fatal("the entry did not turn")
		}
		bare(t, x, m, k.raise(old))
	}
	k.writes(t, x, m, 6, 3)
}

// TestSameWordAgain has the entry be away between the steps, and back: the Cas at 2, and at 6, is done then.
func TestSameWordAgain(t *testing.T) {
	for word := range turns(ordinary()) {
		k := ordinary()
		m, x := k.cells(t), k.new(6, 3)
		bare(t, x, m, k.loadEntry())
		k.set(m, word)
		k.set(m, k.word())
		take(t, x, m, k.raise(k.word()))
		guarded(t, x, m, k.loadSize(), k.setByte(6, 3), k.loadEntry())
		k.set(m, word)
		k.set(m, k.word()+guard)
		last(t, x, m, k.lower(k.word()+guard), api.Result{})
		k.is(t, m, k.word())
	}
}

// kept is how far a Write came under its guard: behind the byte, or, where its place is outside, behind the Size.
func (k lying) kept(t *testing.T, m cells.Cells, off int) (*write.Machine, api.Errno) {
	t.Helper()
	x := k.new(off, 99)
	k.begins(t, x, m)
	guarded(t, x, m, k.loadSize())
	if off < 0 || off >= k.size {
		return x, api.ErrRange
	}
	guarded(t, x, m, k.setByte(off, 99))
	return x, api.OK
}

// TestTurnedAheadOfTheEnd has the Cas at 6 be not done: 5 comes again, and neither the byte nor the Size is asked for.
func TestTurnedAheadOfTheEnd(t *testing.T) {
	for _, off := range []int{0, 11, 12, -1} {
		for _, held := range []int{2 * guard, 15 * guard, guard + pin, guard + 7*pin, 3*guard + 2*pin} {
			k := ordinary()
			m := k.cells(t)
			x, err := k.kept(t, m, off)
			guarded(t, x, m, k.loadEntry())
			k.set(m, k.word()+held)
			m.SetByte(16, 55)
			m.Store(sizeAt(k.c, k.slot), 0)
			guarded(t, x, m, k.lower(k.word()+guard))
			k.is(t, m, k.word()+held)
			guarded(t, x, m, k.loadEntry())
			k.set(m, k.word()+4*guard)
			guarded(t, x, m, k.lower(k.word()+held), k.loadEntry())
			last(t, x, m, k.lower(k.word()+4*guard), failed(err))
			k.is(t, m, k.word()+3*guard)
			if m.Byte(16) != 55 {
				t.Errorf("P13.1: the byte is written again")
			}
		}
	}
}

// TestOthersComeAndGo has pins, and guards of others, come and go at each step under the guard: they are left as they are.
func TestOthersComeAndGo(t *testing.T) {
	for _, off := range []int{6, 12} {
		for _, held := range []int{pin, 7 * pin, guard, 14 * guard, 7*pin + 14*guard} {
			for at := range 3 {
				k := ordinary()
				m, x := k.cells(t), k.new(off, 3)
				k.begins(t, x, m)
				for i, want := range []string{k.loadSize(), k.setByte(off, 3), k.loadEntry()} {
					if i == at {
						k.set(m, k.word()+guard+held)
					}
					if i != 1 || off == 6 {
						guarded(t, x, m, want)
					}
				}
				if at == 2 {
					k.held = held
				}
				want, err := k.word()+guard, api.OK
				if at < 2 {
					want += held
				}
				if off == 12 {
					err = api.ErrRange
				}
				last(t, x, m, call("cas", entryAt(k.c, 3), want, want-guard), failed(err))
				k.is(t, m, want-guard)
			}
		}
	}
}

// taken are words of which no guard may be given back.
func taken(k lying) []int {
	return append(noEntries(), k.word(), k.word()+pin, k.word()+7*pin, k.word()+lock, wordOf(0, k.gen), wordOf(16, 6), wordOf(16, 6)+lock, wordOf(16, 0), freed(0), freed(5), freed(6), freed(1000), 0)
}

// TestTakenAway has others take the guards away: 6 does nothing then, and is the end all the same, with OK, or what was kept.
func TestTakenAway(t *testing.T) {
	for _, word := range taken(ordinary()) {
		for _, off := range []int{0, 11, 12, -1} {
			k := ordinary()
			m := k.cells(t)
			x, err := k.kept(t, m, off)
			k.set(m, word)
			guarded(t, x, m, k.loadEntry())
			want := m.Copy()
			last(t, x, m, "", failed(err))
			same(t, m, want)
			m = k.cells(t)
			x, err = k.kept(t, m, off)
			guarded(t, x, m, k.loadEntry())
			k.set(m, word)
			guarded(t, x, m, k.lower(k.word()+guard), k.loadEntry())
			want = m.Copy()
			last(t, x, m, "", failed(err))
			same(t, m, want)
		}
	}
}

// TestTakenBehindTheLoad has the guards be back at 6 where 5 found none: 6 goes by what 5 found.
func TestTakenBehindTheLoad(t *testing.T) {
	k := ordinary()
	m := k.cells(t)
	x, err := k.kept(t, m, 0)
	k.set(m, k.word())
	guarded(t, x, m, k.loadEntry())
	k.set(m, k.word()+guard)
	last(t, x, m, "", failed(err))
	k.is(t, m, k.word()+guard)
}

// TestAnotherOnesGuard has the entry be another one's at 5, that has guards: 6 asks for no generation, and gives one of them back.
func TestAnotherOnesGuard(t *testing.T) {
	for _, word := range []int{wordOf(16, 6) + guard, wordOf(16, 4) + guard, wordOf(8, 5) + guard, wordOf(16, 6) + 15*guard + 7*pin, wordOf(4096, 1000) + 2*guard} {
		for _, off := range []int{0, 12} {
			k := ordinary()
			m := k.cells(t)
			x, err := k.kept(t, m, off)
			k.set(m, word)
			guarded(t, x, m, k.loadEntry())
			last(t, x, m, k.lower(word), failed(err))
			k.is(t, m, word-guard)
		}
	}
}

// TestPlaceOfTheGuardedEntry has the entry be moved under the guard, against all rules: 4 goes by the entry that was guarded.
func TestPlaceOfTheGuardedEntry(t *testing.T) {
	k := ordinary()
	m, x := k.cells(t), k.new(6, 3)
	k.begins(t, x, m)
	k.set(m, wordOf(40, 5)+guard)
	guarded(t, x, m, k.loadSize(), call("setbyte", 22, 3), k.loadEntry())
	last(t, x, m, k.lower(wordOf(40, 5)+guard), api.Result{})
}

// TestTheSizeIsThatOfItsStep has the Size change between the steps.
func TestTheSizeIsThatOfItsStep(t *testing.T) {
	k := ordinary()
	m, x := k.cells(t), k.new(12, 3)
	k.begins(t, x, m)
	m.Store(sizeAt(k.c, 3), 13)
	guarded(t, x, m, k.loadSize())
	m.Store(sizeAt(k.c, 3), 1)
	guarded(t, x, m, k.setByte(12, 3))
	k.ends(t, x, m, api.OK)
	x = k.new(1, 3)
	k.begins(t, x, m)
	guarded(t, x, m, k.loadSize())
	m.Store(sizeAt(k.c, 3), 12)
	k.ends(t, x, m, api.ErrRange)
}

// TestNil has machines that are nil, or that New did not make, an m that is nil, and machines that go on behind that as if nothing had been.
func TestNil(t *testing.T) {
	k := ordinary()
	m := k.cells(t)
	guards(t, nil, false)
	guards(t, &write.Machine{}, false)
	last(t, nil, m, "", failed(api.ErrArg))
	last(t, &write.Machine{}, m, "", failed(api.ErrArg))
	same(t, m, k.cells(t))
	x := k.new(3, 7)
	none := func(guard bool) {
		t.Helper()
		for range 2 {
			if r, end := x.Step(nil); r != failed(api.ErrArg) || !end {
				t.Errorf("P13.1: a step of a nil m tells %v, %v", r, end)
			}
			guards(t, x, guard)
		}
	}
	none(false)
	bare(t, x, m, k.loadEntry())
	none(false)
	take(t, x, m, k.raise(k.word()))
	for _, want := range []string{k.loadSize(), k.setByte(3, 7), k.loadEntry()} {
		none(true)
		guarded(t, x, m, want)
	}
	none(true)
	last(t, x, m, k.lower(k.word()+guard), api.Result{})
	none(false)
	for _, y := range []*write.Machine{nil, {}, k.new(99, 0), write.New(k.c, 0, 0, 0), write.New(api.Config{}, k.handle(), 0, 0)} {
		x = y
		none(false)
	}
	wrong := write.New(k.c, 0, 0, 0)
	wrong.Step(nil)
	last(t, wrong, m, "", failed(api.ErrStale))
}

// TestWrongConfigs has no step do anything, whatever the handle is.
func TestWrongConfigs(t *testing.T) {
	k := ordinary()
	for _, c := range []api.Config{
		{}, {Arena: 0, Slots: 5, Threads: 2}, {Arena: 4, Slots: 5, Threads: 2}, {Arena: 12, Slots: 5, Threads: 2}, {Arena: -8, Slots: 5, Threads: 2}, {Arena: 4104, Slots: 5, Threads: 2},
		{Arena: 64, Slots: 0, Threads: 2}, {Arena: 64, Slots: -1, Threads: 2}, {Arena: 64, Slots: 65, Threads: 2}, {Arena: 64, Slots: 5}, {Arena: 64, Slots: 5, Threads: -1}, {Arena: 64, Slots: 5, Threads: 5},
		{Arena: math.MinInt, Slots: math.MinInt, Threads: math.MinInt}, {Arena: math.MaxInt, Slots: math.MaxInt, Threads: math.MaxInt},
	} {
		for _, h := range []int{k.handle(), handleOf(0, 0), 0, -1} {
			m := k.cells(t)
			last(t, write.New(c, h, 0, 0), m, "", failed(api.ErrArg))
			same(t, m, k.cells(t))
		}
	}
}

// TestTooFewCells has cells without the slot's words, or without bytes: they tell 0, and nothing is done to them.
func TestTooFewCells(t *testing.T) {
	k := ordinary()
	var none *cells.Plain
	var noAtomic *cells.Atomic
	for _, m := range []cells.Cells{cells.New(1, 64), cells.NewAtomic(entryAt(k.c, 3), 0), none, noAtomic} {
		last(t, k.new(0, 1), m, k.loadEntry(), failed(api.ErrStale))
		last(t, write.New(k.c, handleOf(3, 0), 0, 1), m, k.loadEntry(), failed(api.ErrStale))
	}
	size := cells.New(sizeAt(k.c, 3), 64)
	k.set(size, k.word())
	k.refuses(t, k.new(0, 1), size)
	bytes := cells.New(sizeAt(k.c, 3)+1, 20)
	k.set(bytes, k.word())
	bytes.Store(sizeAt(k.c, 3), k.size)
	for off, want := range map[int]int{3: 77, 4: 0, 11: 0} {
		k.writes(t, k.new(off, 77), bytes, off, 77)
		if got := bytes.Byte(16 + off); got != want {
			t.Errorf("P13.1: at %d: %d, not %d", off, got, want)
		}
	}
	// Cells that are too few from a step on have no entry any more.
	few, m := cells.New(1, 0), k.cells(t)
	x := k.new(0, 1)
	bare(t, x, m, k.loadEntry())
	bare(t, x, few, k.raise(k.word()))
	last(t, x, few, k.loadEntry(), failed(api.ErrStale))
	x, _ = k.kept(t, m, 0)
	guarded(t, x, m, k.loadEntry())
	guarded(t, x, few, k.lower(k.word()+guard), k.loadEntry())
	last(t, x, few, "", api.Result{})
}

// TestNothingIsShared has machines of one handle, and one behind the other: each has its own steps.
func TestNothingIsShared(t *testing.T) {
	k := ordinary()
	m, first, second := k.cells(t), k.new(0, 1), k.new(1, 2)
	k.begins(t, first, m)
	guards(t, second, false)
	guarded(t, first, m, k.loadSize())
	k.held = guard
	k.writes(t, second, m, 1, 2)
	k.held = 0
	guarded(t, first, m, k.setByte(0, 1))
	k.ends(t, first, m, api.OK)
	if m.Byte(16) != 1 || m.Byte(17) != 2 {
		t.Errorf("P13.1: bytes %d, %d", m.Byte(16), m.Byte(17))
	}
}
