package epoch_test

import (
	"slices"
	"sync"
	"testing"

	"sidings/api"
	"sidings/cells"
	"sidings/epoch"
	"sidings/layout"
)

const (
	threads = 3
	turns   = 2
)

// visitor is a thread that comes in and leaves, so many rounds.
type visitor struct {
	rounds int
	coming bool
	inside bool
	enter  epoch.Enter
	ahead  [turns]bool // came in ahead of that Turn's Cas
}

// turner is one who does so many Turns, one behind the other.
type turner struct {
	rounds int
	turn   epoch.Turn
	busy   bool
	done   bool // its Cas was
	from   int
}

// moment is all that there is between two steps.
type moment struct {
	words    [4 + threads]int
	visitors [threads]visitor
	turners  [turns]turner
}

// search goes through all moments that any order of single steps comes to.
type search struct {
	t     *testing.T
	c     api.Config
	seen  map[moment]struct{}
	told  map[bool]int
	again int
	back  int
}

func (s *search) from(at moment) {
	if _, before := s.seen[at]; before {
		return
	}
	s.seen[at] = struct{}{}
	s.checkInside(at)
	for i, v := range at.visitors {
		if v.rounds > 0 {
			s.from(s.visit(at, i))
		}
	}
	for i, u := range at.turners {
		if u.rounds > 0 {
			s.from(s.turn(at, i))
		}
	}
}

func (s *search) cells(at moment) *cells.Plain {
	m := cells.New(len(at.words), 0)
	for i, w := range at.words {
		m.Store(i, w)
	}
	return m
}

func (at *moment) keep(m cells.Cells) {
	for i := range at.words {
		at.words[i] = m.Load(i)
	}
}

// visit is the moment behind a thread's step: it comes in by two, and leaves by one.
func (s *search) visit(at moment, i int) moment {
	m, v := s.cells(at), &at.visitors[i]
	before := m.Steps()
	switch {
	case v.inside:
		epoch.Exit(m, s.c, i)
		*v = visitor{rounds: v.rounds - 1}
	case !v.coming:
		v.coming, v.enter = true, *epoch.NewEnter(s.c, i)
		if v.enter.Step(m) {
			s.t.Fatal("P16.1: the first step of an Enter is the end")
		}
	default:
		if !v.enter.Step(m) {
			s.t.Fatal("P16.1: the second step of an Enter is not the end")
		}
		*v = visitor{rounds: v.rounds, inside: true}
	}
	if m.Steps() != before+1 {
		s.t.Fatalf("P16.1: a step calls %d times", m.Steps()-before)
	}
	at.keep(m)
	return at
}

// turn is the moment behind a turner's step.
func (s *search) turn(at moment, i int) moment {
	m, u := s.cells(at), &at.turners[i]
	before, was := m.Steps(), m.Load(epochAt)
	if !u.busy {
		*u = turner{rounds: u.rounds, turn: *epoch.NewTurn(s.c), busy: true, from: was}
	}
	left, end := u.turn.Step(m)
	if m.Steps() != before+2 {
		s.t.Fatalf("P16.2: a step calls %d times", m.Steps()-before-1)
	}
	at.keep(m)
	if at.words[epochAt] != was {
		u.done = true
		for j := range at.visitors {
			at.visitors[j].ahead[i] = at.visitors[j].inside
		}
	} else if !u.done && !end {
		if u.from != was {
			s.again++
		}
		u.from = was
	}
	if end {
		s.told[left]++
		s.checkTold(at, i, left)
		*u = turner{rounds: u.rounds - 1}
		for j := range at.visitors {
			at.visitors[j].ahead[i] = false
		}
	}
	return at
}

// checkTold has no thread be inside that came ahead of a Turn that tells true, and one that noted an older epoch, if it tells false.
func (s *search) checkTold(at moment, i int, left bool) {
	s.t.Helper()
	if !at.turners[i].done {
		s.t.Fatal("P16.2: a Turn ends without its Cas")
	}
	older := false
	for j, v := range at.visitors {
		if v.ahead[i] && left {
			s.t.Fatalf("P16.4: thread %d is inside, and came ahead of the Turn: %v", j, at.words)
		}
		older = older || v.inside && at.words[noteAt(j)] <= at.turners[i].from+1
	}
	if !left && !older {
		s.t.Fatalf("P16.2: none is inside that came ahead: %v", at.words)
	}
	if left && older {
		s.back++ // it came in with an old epoch behind the Turn's look at it
	}
}

func (s *search) checkInside(at moment) {
	s.t.Helper()
	var want []int
	for i, v := range at.visitors {
		if v.inside {
			want = append(want, i)
		}
	}
	if l := epoch.Inside(s.cells(at), s.c); !slices.Equal(l, want) {
		s.t.Fatalf("P16.3: %v are inside, not %v", l, want)
	}
}

// TestAllInterleavings goes through each order of the steps of threads that come and go, and of Turns.
func TestAllInterleavings(t *testing.T) {
	for _, c := range []struct {
		visits [threads]int
		turns  [turns]int
	}{
		{[threads]int{2, 0, 0}, [turns]int{2, 1}},
		{[threads]int{2, 1, 0}, [turns]int{2, 0}},
		{[threads]int{0, 1, 1}, [turns]int{1, 1}},
		{[threads]int{1, 1, 1}, [turns]int{2, 0}},
	} {
		s := &search{t: t, c: api.Config{Arena: 8, Slots: 1, Threads: threads}, seen: map[moment]struct{}{}, told: map[bool]int{}}
		at := moment{}
		for i, n := range c.visits {
			at.visitors[i].rounds = n
		}
		for i, n := range c.turns {
			at.turners[i].rounds = n
		}
		s.from(at)
		if s.told[true] == 0 || s.told[false] == 0 || s.back == 0 || (s.again > 0) != (c.turns[1] > 0) {
			t.Errorf("P16.2: %v: %v are told, %d come again, %d came late", c, s.told, s.again, s.back)
		}
	}
}

// TestAlone has threads come and go, and Turns be done, one behind the other, by a rule: a Turn tells whether none is inside.
func TestAlone(t *testing.T) {
	for start := range 40 {
		count := 1 + start%4
		c := config(count)
		l, _ := layout.Of(c)
		m, rule, inside, came := cells.New(l.Words(), 8), start, [4]bool{}, [4]int{}
		turned := 0
		for range 300 {
			rule = (rule*1103515245 + 12345) % (1 << 31)
			thread := rule >> 12 % count
			switch rule >> 20 % 3 {
			case 0:
				enters(t, epoch.NewEnter(c, thread), m, thread, turned)
				inside[thread], came[thread] = true, turned
			case 1:
				epoch.Exit(m, c, thread)
				inside[thread] = false
			default:
				first := slices.Index(inside[:count], true)
				x := epoch.NewTurn(c)
				steps(t, x, m, loadEpoch(), raise(turned))
				turned++
				if first < 0 {
					first = count
				}
				for i := range min(first, count-1) {
					steps(t, x, m, loadNote(i))
				}
				last(t, x, m, loadNote(min(first, count-1)), first == count)
			}
			checkNotes(t, m, c, inside, came)
			if t.Failed() {
				t.FailNow()
			}
		}
	}
}

func checkNotes(t *testing.T, m cells.Cells, c api.Config, inside [4]bool, came [4]int) {
	t.Helper()
	var want []int
	for i := range c.Threads {
		n := 0
		if inside[i] {
			n = came[i] + 1
			want = append(want, i)
		}
		if m.Load(noteAt(i)) != n {
			t.Errorf("P16.1: the note of %d is %d, not %d", i, m.Load(noteAt(i)), n)
		}
	}
	if l := epoch.Inside(m, c); !slices.Equal(l, want) {
		t.Errorf("P16.3: %v are inside, not %v", l, want)
	}
}

// The words that TestGoroutines has besides: what is in use, and what is so no more.
const (
	inUse   = 0
	outdate = 1
)

// TestGoroutines has goroutines come in over atomic cells, and look at what is in use, which another one makes outdated by Turns: while they are inside, what they saw is not so.
func TestGoroutines(t *testing.T) {
	const rounds = 3000
	c := config(4)
	l, _ := layout.Of(c)
	m := cells.NewAtomic(l.Words(), c.Arena)
	m.Store(inUse, 1)
	var all sync.WaitGroup
	var faults [4]int
	for thread := range 4 {
		all.Add(1)
		go func() {
			defer all.Done()
			for range rounds {
				faults[thread] += look(m, c, thread)
			}
		}()
	}
	over := make(chan struct{})
	go func() {
		all.Wait()
		close(over)
	}()
	replace(m, c, over)
	if faults != [4]int{} {
		t.Errorf("P16.4: what was seen from inside was outdated: %v", faults)
	}
	if inside := epoch.Inside(m, c); len(inside) != 0 {
		t.Errorf("P16.3: %v", inside)
	}
	if m.Load(outdate) == 0 {
		t.Errorf("P16.2: no Turn told true")
	}
}

// look tells how many faults a thread saw while it was inside.
func look(m cells.Cells, c api.Config, thread int) int {
	x := epoch.NewEnter(c, thread)
	for !x.Step(m) {
	}
	faults, seen := 0, m.Load(inUse)
	for range 10 {
		if m.Load(outdate) >= seen {
			faults++
		}
	}
	epoch.Exit(m, c, thread)
	return faults
}

// replace does Turns till all is over, and one behind that.
func replace(m cells.Cells, c api.Config, over chan struct{}) {
	for ended := false; !ended; {
		select {
		case <-over:
			ended = true
		default:
		}
		old := m.Load(inUse)
		m.Store(inUse, old+1)
		x := epoch.NewTurn(c)
		left, end := x.Step(m)
		for !end {
			left, end = x.Step(m)
		}
		if left {
			m.Store(outdate, old)
		}
	}
}
