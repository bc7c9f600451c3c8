package cells_test

import (
	"math"
	"sync"
	"testing"

	"sidings/cells"
)

// kind is one of the two kinds of cells, made behind the interface; make tells nil where there are none.
type kind struct {
	name string
	make func(words int, bytes int) cells.Cells
	nils cells.Cells
	zero cells.Cells
}

func kinds() []kind {
	return []kind{
		{"Plain", makePlain, (*cells.Plain)(nil), &cells.Plain{}},
		{"Atomic", makeAtomic, (*cells.Atomic)(nil), &cells.Atomic{}},
	}
}

func makePlain(words int, bytes int) cells.Cells {
	if p := cells.New(words, bytes); p != nil {
		return p
	}
	return nil
}

func makeAtomic(words int, bytes int) cells.Cells {
	if a := cells.NewAtomic(words, bytes); a != nil {
		return a
	}
	return nil
}

// sizes are counts of words and bytes that may be, their edges among them.
func sizes() [][2]int {
	return [][2]int{{1, 0}, {1, 1}, {1, 4096}, {4096, 0}, {4096, 4096}, {4095, 4095}, {6, 8}, {2, 1}}
}

// someNumbers are what words hold, and are held against.
func someNumbers() []int {
	return []int{math.MinInt, math.MinInt + 1, -1 << 32, -1 << 31, -257, -256, -255, -1, 0, 1, 2, 255, 256, 1 << 31, 1<<32 - 1, 1 << 32, 1<<53 + 1, 1 << 62, math.MaxInt - 1, math.MaxInt}
}

// wrongPlaces are places that cells with so many words, or bytes, do not have.
func wrongPlaces(n int) []int {
	return []int{math.MinInt, math.MinInt + n, -1 << 32, -n - 1, -n, -2, -1, n, n + 1, 2 * n, 4096, 4097, 1 << 31, 1 << 32, 1<<32 + 1, math.MaxInt - 1, math.MaxInt}
}

// state is all that cells hold.
type state struct {
	words []int
	bytes []int
}

// stateOf asks cells for all that they hold: steps of Plain ones are counted by it.
func stateOf(m cells.Cells) state {
	var s state
	for i := range m.Words() {
		s.words = append(s.words, m.Load(i))
	}
	for i := range m.Bytes() {
		s.bytes = append(s.bytes, m.Byte(i))
	}
	return s
}

func (s state) same(o state) bool {
	return sameNumbers(s.words, o.words) && sameNumbers(s.bytes, o.bytes)
}

func sameNumbers(l []int, o []int) bool {
	if len(l) != len(o) {
		return false
	}
	for i := range l {
		if l[i] != o[i] {
			return false
		}
	}
	return true
}

// fill sets all words and bytes, each one to something else than its neighbours.
func fill(m cells.Cells) {
	for i := range m.Words() {
		m.Store(i, i*1000003-7)
	}
	for i := range m.Bytes() {
		m.SetByte(i, i*7+3)
	}
}

func TestHowManyMayBe(t *testing.T) {
	may := func(words int, bytes int) bool {
		return words >= 1 && words <= 4096 && bytes >= 0 && bytes <= 4096
	}
	counts := []int{math.MinInt, -4096, -1, 0, 1, 2, 100, 4095, 4096, 4097, 1 << 16, 1 << 32, math.MaxInt}
	for _, k := range kinds() {
		for _, words := range counts {
			for _, bytes := range counts {
				m := k.make(words, bytes)
				if (m != nil) != may(words, bytes) {
					t.Errorf("P5.1, P5.2: %s of %d, %d: nil %v", k.name, words, bytes, m == nil)
				}
				if m != nil && (m.Words() != words || m.Bytes() != bytes) {
					t.Errorf("P5.1, P5.2: %s of %d, %d has %d, %d", k.name, words, bytes, m.Words(), m.Bytes())
				}
			}
		}
	}
}

func TestNewCellsAreZero(t *testing.T) {
	for _, k := range kinds() {
		for _, s := range sizes() {
			got, want := stateOf(k.make(s[0], s[1])), state{make([]int, s[0]), make([]int, s[1])}
			if !got.same(want) {
				t.Errorf("P5.1, P5.2: %s of %v is not all 0", k.name, s)
			}
		}
	}
}

func TestEachWordIsItsOwn(t *testing.T) {
	for _, k := range kinds() {
		for _, s := range sizes() {
			m, want := k.make(s[0], s[1]), state{make([]int, s[0]), make([]int, s[1])}
			for i := range s[0] {
				want.words[i] = i*1000003 - 7
				m.Store(i, want.words[i])
			}
			if !stateOf(m).same(want) {
				t.Errorf("P5.1, P5.2: %s of %v: words are not what was stored", k.name, s)
			}
			for i := range s[1] {
				want.bytes[i] = (i*7 + 3) % 256
				m.SetByte(i, want.bytes[i])
			}
			if !stateOf(m).same(want) {
				t.Errorf("P5.1, P5.2: %s of %v: bytes are not what was set", k.name, s)
			}
		}
	}
}

func TestWordsHoldAnyNumber(t *testing.T) {
	for _, k := range kinds() {
		m := k.make(3, 0)
		for i := range 3 {
			for _, n := range someNumbers() {
				m.Store(i, n)
				if got := m.Load(i); got != n {
					t.Errorf("P5.1, P5.2: %s: Store(%d, %d), then Load: %d", k.name, i, n, got)
				}
			}
		}
	}
}

func TestCas(t *testing.T) {
	for _, k := range kinds() {
		m := k.make(4096, 1)
		for _, i := range []int{0, 1, 4095} {
			for _, has := range someNumbers() {
				for _, old := range someNumbers() {
					for _, n := range someNumbers() {
						checkCas(t, k.name, m, i, [3]int{has, old, n})
					}
				}
			}
		}
	}
}

// checkCas holds for a Cas whose old number is the new one, too: it tells whether the word is that.
func checkCas(t *testing.T, name string, m cells.Cells, i int, c [3]int) {
	t.Helper()
	has, old, n := c[0], c[1], c[2]
	want := has
	if has == old {
		want = n
	}
	m.Store(i, has)
	done := m.Cas(i, old, n)
	if got := m.Load(i); done != (has == old) || got != want {
		t.Errorf("P5.1, P5.2: %s: Cas(%d, %d, %d) of %d: %v, then Load: %d", name, i, old, n, has, done, got)
	}
}

func TestCasIsOfItsWordAlone(t *testing.T) {
	for _, k := range kinds() {
		m := k.make(4096, 8)
		fill(m)
		want := stateOf(m)
		for _, i := range []int{0, 1, 2047, 4094, 4095} {
			if m.Cas(i, want.words[i]+1, 5) {
				t.Errorf("P5.1, P5.2: %s: Cas(%d) of another number was done", k.name, i)
			}
			if !stateOf(m).same(want) {
				t.Errorf("P5.1, P5.2: %s: Cas(%d) that is not done did something", k.name, i)
			}
			if !m.Cas(i, want.words[i], 5) {
				t.Errorf("P5.1, P5.2: %s: Cas(%d) was not done", k.name, i)
			}
			want.words[i] = 5
			if !stateOf(m).same(want) {
				t.Errorf("P5.1, P5.2: %s: Cas(%d) did something else", k.name, i)
			}
		}
	}
}

func TestBytesKeepTheLowestEightBits(t *testing.T) {
	for _, k := range kinds() {
		m := k.make(1, 4096)
		for _, i := range []int{0, 1, 4094, 4095} {
			for b := -1025; b <= 1025; b++ {
				checkByte(t, k.name, m, i, b)
			}
			for _, b := range someNumbers() {
				checkByte(t, k.name, m, i, b)
			}
		}
	}
}

// checkByte goes by a sum: what is left of 256s, from 0 on.
func checkByte(t *testing.T, name string, m cells.Cells, i int, b int) {
	t.Helper()
	want := (b%256 + 256) % 256
	m.SetByte(i, b)
	if got := m.Byte(i); got != want {
		t.Errorf("P5.1, P5.2: %s: SetByte(%d, %d), then Byte: %d, not %d", name, i, b, got, want)
	}
}

func TestPlacesThatThereAreNot(t *testing.T) {
	for _, k := range kinds() {
		for _, s := range sizes() {
			m := k.make(s[0], s[1])
			fill(m)
			want := stateOf(m)
			for _, i := range wrongPlaces(s[0]) {
				if i < 0 || i >= s[0] {
					checkNoWord(t, k.name, m, i)
				}
			}
			for _, i := range wrongPlaces(s[1]) {
				if i < 0 || i >= s[1] {
					checkNoByte(t, k.name, m, i)
				}
			}
			if !stateOf(m).same(want) {
				t.Errorf("P5.1, P5.2: %s of %v: places that there are not changed others", k.name, s)
			}
		}
	}
}

func checkNoWord(t *testing.T, name string, m cells.Cells, i int) {
	t.Helper()
	m.Store(i, 9)
	if n := m.Load(i); n != 0 {
		t.Errorf("P5.1, P5.2: %s: Load(%d): %d", name, i, n)
	}
	for _, old := range []int{0, 9, m.Load(0)} {
		if m.Cas(i, old, 5) || m.Cas(i, old, old) {
			t.Errorf("P5.1, P5.2: %s: Cas(%d) of %d was done", name, i, old)
		}
	}
}

func checkNoByte(t *testing.T, name string, m cells.Cells, i int) {
	t.Helper()
	m.SetByte(i, 9)
	if b := m.Byte(i); b != 0 {
		t.Errorf("P5.1, P5.2: %s: Byte(%d): %d", name, i, b)
	}
}

// TestNothingIsThere asks cells that are nil, and ones that New did not make, which have no words, nor bytes.
func TestNothingIsThere(t *testing.T) {
	for _, k := range kinds() {
		for _, m := range []cells.Cells{k.nils, k.zero} {
			for _, i := range append(wrongPlaces(0), 0, 1) {
				checkNoWord(t, k.name, m, i)
				checkNoByte(t, k.name, m, i)
			}
			if m.Words() != 0 || m.Bytes() != 0 {
				t.Errorf("P5.1, P5.2: %s that are none have %d, %d", k.name, m.Words(), m.Bytes())
			}
		}
	}
}

func TestNilPlain(t *testing.T) {
	var p *cells.Plain
	p.Load(0)
	p.Store(0, 1)
	if p.Steps() != 0 || p.Copy() != nil {
		t.Errorf("P5.1: nil: %d steps, a copy %v", p.Steps(), p.Copy())
	}
	z := (&cells.Plain{}).Copy()
	if z == nil || z.Words() != 0 || z.Bytes() != 0 || z.Steps() != 0 {
		t.Errorf("P5.1: a copy of the zero Plain: %v", z)
	}
}

func TestSteps(t *testing.T) {
	p := cells.New(2, 2)
	for i, c := range []struct {
		name string
		do   func()
		by   int
	}{
		{"Load", func() { p.Load(0) }, 1},
		{"Load of the last", func() { p.Load(1) }, 1},
		{"Store", func() { p.Store(1, 5) }, 1},
		{"Cas that is done", func() { p.Cas(1, 5, 6) }, 1},
		{"Cas that is not", func() { p.Cas(1, 5, 6) }, 1},
		{"Byte", func() { p.Byte(1) }, 1},
		{"SetByte", func() { p.SetByte(0, 3) }, 1},
		{"Load where there is none", func() { p.Load(2) }, 1},
		{"Store where there is none", func() { p.Store(-1, 1) }, 1},
		{"Cas where there is none", func() { p.Cas(2, 0, 0) }, 1},
		{"Byte where there is none", func() { p.Byte(2) }, 1},
		{"SetByte where there is none", func() { p.SetByte(-1, 1) }, 1},
		{"Words", func() { p.Words() }, 0},
		{"Bytes", func() { p.Bytes() }, 0},
		{"Steps", func() { p.Steps() }, 0},
		{"Copy", func() { p.Copy() }, 0},
		{"a copy's", func() { p.Copy().Load(0) }, 0},
	} {
		before := p.Steps()
		c.do()
		if p.Steps() != before+c.by {
			t.Errorf("P5.1: case %d, %s: %d steps, then %d", i, c.name, before, p.Steps())
		}
	}
	if n := cells.New(3, 3).Steps(); n != 0 {
		t.Errorf("P5.1: new cells have %d steps", n)
	}
}

func TestCopyIsAlike(t *testing.T) {
	for _, s := range sizes() {
		p := cells.New(s[0], s[1])
		fill(p)
		steps := p.Steps()
		c := p.Copy()
		if c.Steps() != steps || p.Steps() != steps || steps != s[0]+s[1] {
			t.Errorf("P5.1: %v: %d steps, the copy %d, ahead of it %d", s, p.Steps(), c.Steps(), steps)
		}
		if c == p || !stateOf(c).same(stateOf(p)) {
			t.Errorf("P5.1: %v: the copy is not like what it is of", s)
		}
	}
}

func TestCopyIsApart(t *testing.T) {
	p := cells.New(4, 4)
	fill(p)
	c := p.Copy()
	was, steps := stateOf(p), p.Steps()
	for i := range 4 {
		c.Store(i, -5)
		c.SetByte(i, 200)
	}
	c.Cas(0, -5, -6)
	if p.Steps() != steps {
		t.Errorf("P5.1: the copy's steps are counted of what it is of: %d, not %d", p.Steps(), steps)
	}
	if !stateOf(p).same(was) {
		t.Error("P5.1: the copy was changed, and what it is of with it")
	}
	changed, steps := stateOf(c), c.Steps()
	p.Store(0, 77)
	p.Cas(1, was.words[1], 78)
	p.SetByte(3, 79)
	if c.Steps() != steps || !stateOf(c).same(changed) {
		t.Error("P5.1: what was copied was changed, and the copy with it")
	}
}

func TestRace(t *testing.T) {
	for _, threads := range []int{1, 2, 4, 7, 8} {
		for _, times := range []int{0, 1, 10, 999, 1000} {
			for _, first := range []int{0, 5, -3, math.MaxInt - 4, math.MaxInt, math.MinInt} {
				checkRace(t, threads, times, first)
			}
		}
	}
}

// checkRace holds also where word 0 goes around at 64 bits; other words and bytes stay.
func checkRace(t *testing.T, threads int, times int, first int) {
	t.Helper()
	a := cells.NewAtomic(3, 2)
	fill(a)
	a.Store(0, first)
	want := stateOf(a)
	want.words[0] = first + threads*times
	if n := cells.Race(a, threads, times); n != threads*times {
		t.Errorf("P5.3, P5.4: Race of %d, %d, from %d on: %d", threads, times, first, n)
	}
	if got := stateOf(a); !got.same(want) {
		t.Errorf("P5.3, P5.4: behind Race of %d, %d, from %d on: %v, not %v", threads, times, first, got, want)
	}
}

func TestRacesThatMayNotBe(t *testing.T) {
	a := cells.NewAtomic(1, 0)
	a.Store(0, 11)
	for _, c := range []struct {
		a              *cells.Atomic
		threads, times int
	}{
		{nil, 4, 10},
		{nil, 0, -1},
		{&cells.Atomic{}, 4, 10}, // no word 0, and yet it ends
		{&cells.Atomic{}, 1, 0},
		{a, 0, 10},
		{a, 9, 10},
		{a, -1, 10},
		{a, math.MinInt, 10},
		{a, math.MaxInt, 10},
		{a, 1<<32 + 1, 10},
		{a, 4, -1},
		{a, 4, 1001},
		{a, 4, math.MinInt},
		{a, 4, math.MaxInt},
		{a, 4, 1 << 32},
	} {
		if n := cells.Race(c.a, c.threads, c.times); n != 0 {
			t.Errorf("P5.3: Race of nil %v, %d, %d: %d", c.a == nil, c.threads, c.times, n)
		}
	}
	if n := a.Load(0); n != 11 {
		t.Errorf("P5.3: behind races that may not be word 0 is %d", n)
	}
}

// TestRacesAtATime has two races over the same word: what one loses the other one would miss.
func TestRacesAtATime(t *testing.T) {
	a := cells.NewAtomic(1, 0)
	together(2, func(int) { cells.Race(a, 8, 1000) })
	if n := a.Load(0); n != 16000 {
		t.Errorf("P5.2, P5.4: two races came to %d", n)
	}
}

// together does the same by so many goroutines, and waits for all of them.
func together(threads int, do func(number int)) {
	var all sync.WaitGroup
	for number := range threads {
		all.Add(1)
		go func() {
			defer all.Done()
			do(number)
		}()
	}
	all.Wait()
}

// TestOneCasOfManyIsDone lets goroutines take each number of a word once: where a Cas is not done, another one's was.
func TestOneCasOfManyIsDone(t *testing.T) {
	const threads, numbers = 8, 5000
	a := cells.NewAtomic(2, 0)
	var taken [threads]int
	together(threads, func(number int) {
		for n := range numbers {
			if a.Cas(1, n, n+1) {
				taken[number]++
			}
		}
	})
	sum := 0
	for _, n := range taken {
		sum += n
	}
	if sum != numbers || a.Load(1) != numbers {
		t.Errorf("P5.2, P5.4: %d numbers were taken %d times, and the word is %d", numbers, sum, a.Load(1))
	}
}

// TestNeighboursAtATime lets each goroutine have a word and a byte alone, side by side with the others'.
func TestNeighboursAtATime(t *testing.T) {
	const threads = 8
	a := cells.NewAtomic(threads, threads)
	var lost [threads]int
	together(threads, func(number int) {
		for i := range 5000 {
			a.Store(number, -i)
			a.SetByte(number, i)
			if a.Load(number) != -i || a.Byte(number) != i%256 {
				lost[number]++
			}
		}
	})
	for number, n := range lost {
		if n != 0 {
			t.Errorf("P5.2, P5.4: goroutine %d lost %d of what it stored", number, n)
		}
	}
}

// TestWordsAreWholeAtATime has numbers stored whose halves are alike: no other ones are to be seen.
func TestWordsAreWholeAtATime(t *testing.T) {
	const threads = 6
	a := cells.NewAtomic(1, 1)
	var torn [threads]int
	together(threads, func(number int) {
		for i := range 3000 {
			half := (number*3000 + i) % 65536
			a.Store(0, half<<32|half)
			a.SetByte(0, number*17)
			n, b := a.Load(0), a.Byte(0)
			if n>>32 != n&0xffffffff || b%17 != 0 || b > 5*17 {
				torn[number]++
			}
		}
	})
	for number, n := range torn {
		if n != 0 {
			t.Errorf("P5.2, P5.4: goroutine %d saw %d numbers that were not stored", number, n)
		}
	}
}

// TestWhatWasStoredAheadIsSeen goes by a flag: a byte that was set ahead of it is there where the flag is.
func TestWhatWasStoredAheadIsSeen(t *testing.T) {
	for range 200 {
		a := cells.NewAtomic(2, 1)
		missed := false
		together(2, func(number int) {
			if number == 0 {
				a.SetByte(0, 5)
				a.Store(1, 7)
				a.Store(0, 1)
			} else if a.Load(0) == 1 {
				missed = a.Byte(0) != 5 || a.Load(1) != 7
			}
		})
		if missed {
			t.Fatal("P5.2, P5.4: what was stored ahead of a flag was not there with it")
		}
	}
}
