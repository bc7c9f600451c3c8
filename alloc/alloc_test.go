package alloc_test

import (
	"math"
	"slices"
	"testing"

	"sidings/alloc"
	"sidings/api"
	"sidings/cells"
)

// making is an object that is to be made, and what the words are ahead of that.
type making struct {
	c        api.Config
	free     []int
	tag      int
	frontier int
	pending  int
	gen      int
	n        int
}

func (k making) slot() int { return k.free[0] }

// top is that of a slot that is free.
func (k making) top(at int) int {
	if at >= len(k.free) {
		return 0
	}
	return k.free[at] + 1
}

// cells are such as the words say; the other slots' words are such that a wrong one of them would be found.
func (k making) cells(t *testing.T) *cells.Plain {
	t.Helper()
	m := started(t, k.c)
	for s := range k.c.Slots {
		m.Store(entryAt(k.c, s), wordOf(0, 900, 0))
		m.Store(sizeAt(k.c, s), 1000+s)
		m.Store(linkAt(k.c, s), -1)
	}
	for i, s := range k.free {
		m.Store(entryAt(k.c, s), wordOf(0, k.gen+i, 0))
		m.Store(linkAt(k.c, s), k.top(i+1))
	}
	m.Store(stackAt, headOf(k.top(0), k.tag))
	m.Store(frontierAt, k.frontier)
	m.Store(pendingAt, k.pending)
	return m
}

func (k making) raise() []string {
	return []string{call("load", pendingAt), call("cas", pendingAt, k.pending, k.pending+1)}
}

func (k making) pop() []string {
	return []string{call("load", stackAt), call("load", linkAt(k.c, k.slot())), call("cas", stackAt, headOf(k.top(0), k.tag), headOf(k.top(1), k.tag+1))}
}

func (k making) room() []string {
	return []string{call("load", frontierAt), call("cas", frontierAt, k.frontier, k.frontier+rounded(k.n))}
}

func (k making) fill() []string {
	var l []string
	for i := range rounded(k.n) {
		l = append(l, call("setbyte", k.frontier+i, 0))
	}
	return append(l, call("store", sizeAt(k.c, k.slot()), k.n))
}

func (k making) enter() []string {
	at := entryAt(k.c, k.slot())
	return []string{call("load", at), call("store", at, wordOf(k.frontier, k.gen, 1))}
}

// push is of the slot that was popped; nothing else was popped or pushed ahead of it.
func (k making) push() []string {
	return []string{call("load", stackAt), call("store", linkAt(k.c, k.slot()), k.top(1)), call("cas", stackAt, headOf(k.top(1), k.tag+1), headOf(k.top(0), k.tag+2))}
}

func (k making) lower() (string, string) {
	return call("load", pendingAt), call("cas", pendingAt, k.pending+1, k.pending)
}

// end has the last two steps.
func (k making) end(t *testing.T, x *alloc.Machine, m cells.Cells, told api.Result) {
	t.Helper()
	load, cas := k.lower()
	steps(t, x, m, load)
	last(t, x, m, cas, told)
}

// behind are the cells behind the object was made, alone.
func (k making) behind(t *testing.T) *cells.Plain {
	t.Helper()
	m := k.cells(t)
	m.Store(stackAt, headOf(k.top(1), k.tag+1))
	m.Store(frontierAt, k.frontier+rounded(k.n))
	for i := range rounded(k.n) {
		m.SetByte(k.frontier+i, 0)
	}
	m.Store(sizeAt(k.c, k.slot()), k.n)
	m.Store(entryAt(k.c, k.slot()), wordOf(k.frontier, k.gen, 1))
	return m
}

func (k making) new() *alloc.Machine { return alloc.New(k.c, k.n) }

// ordinary is an object of which nothing is at an edge.
func ordinary() making {
	return making{c: api.Config{Arena: 64, Slots: 5, Threads: 2}, free: []int{3, 1, 4}, tag: 7, frontier: 16, pending: 2, gen: 5, n: 12}
}

func wrongConfigs() []api.Config {
	return []api.Config{
		{}, {Arena: 0, Slots: 1, Threads: 1}, {Arena: 4, Slots: 1, Threads: 1}, {Arena: 12, Slots: 1, Threads: 1}, {Arena: -8, Slots: 1, Threads: 1}, {Arena: 4104, Slots: 1, Threads: 1},
		{Arena: 8, Slots: 0, Threads: 1}, {Arena: 8, Slots: -1, Threads: 1}, {Arena: 8, Slots: 65, Threads: 1}, {Arena: 8, Slots: 1}, {Arena: 8, Slots: 1, Threads: -1}, {Arena: 8, Slots: 1, Threads: 5},
		{Arena: math.MinInt, Slots: math.MinInt, Threads: math.MinInt}, {Arena: math.MaxInt, Slots: math.MaxInt, Threads: math.MaxInt},
	}
}

func TestExample(t *testing.T) {
	c := api.Config{Arena: 8, Slots: 1, Threads: 1}
	m := started(t, c)
	x, before := alloc.New(c, 4), m.Steps()
	for i := range 20 {
		r, end := x.Step(m)
		if want := i == 19; end != want {
			t.Fatalf("P11.1: example 1: step %d tells %v", i+1, end)
		}
		if end && r != made(handleOf(0, 0)) || !end && r != (api.Result{}) {
			t.Errorf("P11.1: example 1: step %d tells %v", i+1, r)
		}
		if m.Steps() != before+i+1 {
			t.Errorf("P11.1: example 1: step %d: %d calls", i+1, m.Steps()-before)
		}
	}
}

// TestSteps makes objects of many kinds, each one's steps told by themselves.
func TestSteps(t *testing.T) {
	wide := api.Config{Arena: 4096, Slots: 64, Threads: 4}
	small := api.Config{Arena: 8, Slots: 1, Threads: 1}
	middle := api.Config{Arena: 64, Slots: 5, Threads: 2}
	for _, k := range []making{
		ordinary(),
		{c: small, free: []int{0}, n: 1},
		{c: small, free: []int{0}, n: 8},
		{c: small, free: []int{0}, n: 5, gen: 1000, pending: 1, tag: 99},
		{c: wide, free: []int{0, 1}, n: 256},
		{c: wide, free: []int{63}, n: 255, frontier: 4096 - 256, gen: 999},
		{c: wide, free: []int{62, 63}, n: 249, frontier: 4096 - 257, gen: 1},
		{c: wide, free: []int{63, 0}, n: 1, frontier: 4096 - 8, gen: 77, pending: 3},
		{c: wide, free: []int{31, 30, 29}, n: 9, frontier: 1000},
		{c: middle, free: []int{4}, n: 7, frontier: 56},
		{c: middle, free: []int{4, 0}, n: 17, frontier: 40},
		{c: middle, free: []int{2, 0}, n: 64},
		{c: middle, free: []int{2, 0}, n: 57, gen: 3},
		{c: middle, free: []int{2, 0}, n: 16, frontier: 1},
		{c: middle, free: []int{2, 0}, n: 16, frontier: 13},
		{c: middle, free: []int{2, 0}, n: 4, pending: -1},
		{c: middle, free: []int{2, 0}, n: 4, pending: -100},
		{c: middle, free: []int{2, 0}, n: 4, pending: math.MinInt},
		{c: middle, free: []int{2, 0}, n: 4, pending: math.MaxInt},
		{c: middle, free: []int{2, 0}, n: 4, pending: 1 << 40},
	} {
		m, x := k.cells(t), k.new()
		for _, calls := range [][]string{k.raise(), k.pop(), k.room(), k.fill(), k.enter()} {
			steps(t, x, m, calls...)
		}
		k.end(t, x, m, made(handleOf(k.slot(), k.gen)))
		same(t, m, k.behind(t))
		if t.Failed() {
			t.Fatalf("P11.1: of %+v", k)
		}
	}
}

// TestTags has the tag behind the last one: it goes around.
func TestTags(t *testing.T) {
	k := ordinary()
	m, x := k.cells(t), k.new()
	m.Store(stackAt, headOf(k.top(0), 1<<32-1))
	if r := run(t, x, m); r != made(handleOf(3, 5)) || m.Load(stackAt) != headOf(2, 0) {
		t.Errorf("P11.1: behind the last tag: %v, the stack %d", r, m.Load(stackAt))
	}
}

func TestWrongSizes(t *testing.T) {
	for _, n := range []int{0, 257, 258, 264, 1000, -1, -8, -256, math.MinInt, math.MaxInt, 1 << 32, 1<<32 + 8, -1 << 32} {
		k := ordinary()
		k.n = n
		m := k.cells(t)
		last(t, k.new(), m, "", failed(api.ErrSize))
		same(t, m, k.cells(t))
		last(t, k.new(), cells.New(1, 0), "", failed(api.ErrSize))
	}
}

// TestPendingGoesAgain turns Pending between a Load of it and its Cas, both when it is raised and when it is lowered.
func TestPendingGoesAgain(t *testing.T) {
	k := ordinary()
	m, x := k.cells(t), k.new()
	steps(t, x, m, call("load", pendingAt))
	m.Store(pendingAt, 3)
	steps(t, x, m, call("cas", pendingAt, 2, 3), call("load", pendingAt))
	m.Store(pendingAt, -5)
	steps(t, x, m, call("cas", pendingAt, 3, 4), call("load", pendingAt), call("cas", pendingAt, -5, -4))
	for _, calls := range [][]string{k.pop(), k.room(), k.fill(), k.enter()} {
		steps(t, x, m, calls...)
	}
	m.Store(pendingAt, 1)
	steps(t, x, m, call("load", pendingAt))
	m.Store(pendingAt, 2)
	steps(t, x, m, call("cas", pendingAt, 1, 0), call("load", pendingAt))
	m.Store(pendingAt, math.MinInt)
	steps(t, x, m, call("cas", pendingAt, 2, 1), call("load", pendingAt))
	last(t, x, m, call("cas", pendingAt, math.MinInt, math.MaxInt), made(handleOf(3, 5)))
	want := k.behind(t)
	want.Store(pendingAt, math.MaxInt)
	same(t, m, want)
}

// TestPendingThatIsBack turns Pending, and back again: the Cas is of the word alone, and is done.
func TestPendingThatIsBack(t *testing.T) {
	k := ordinary()
	m, x := k.cells(t), k.new()
	steps(t, x, m, call("load", pendingAt))
	m.Store(pendingAt, 9)
	m.Store(pendingAt, 2)
	steps(t, x, m, call("cas", pendingAt, 2, 3))
	steps(t, x, m, k.pop()...)
}

// TestPopGoesAgain turns the Stack between a Pop's Load and its Cas: another slot is taken.
func TestPopGoesAgain(t *testing.T) {
	k := ordinary()
	m, x := k.cells(t), k.new()
	steps(t, x, m, k.raise()...)
	steps(t, x, m, call("load", stackAt), call("load", linkAt(k.c, 3)))
	m.Store(stackAt, headOf(2, 8))
	steps(t, x, m, call("cas", stackAt, headOf(4, 7), headOf(2, 8)))
	k.free, k.tag, k.gen = []int{1, 4}, 8, 6
	for _, calls := range [][]string{k.pop(), k.room(), k.fill(), k.enter()} {
		steps(t, x, m, calls...)
	}
	k.end(t, x, m, made(handleOf(1, 6)))
}

// TestFrontierGoesAgain turns the Frontier between a Load of it and its Cas: the object begins where it is then.
func TestFrontierGoesAgain(t *testing.T) {
	k := ordinary()
	m, x := k.cells(t), k.new()
	steps(t, x, m, k.raise()...)
	steps(t, x, m, k.pop()...)
	for _, f := range []int{24, 0, 40, 8, 48} {
		steps(t, x, m, call("load", frontierAt))
		m.Store(frontierAt, f)
		steps(t, x, m, call("cas", frontierAt, k.frontier, k.frontier+16))
		k.frontier = f
	}
	for _, calls := range [][]string{k.room(), k.fill(), k.enter()} {
		steps(t, x, m, calls...)
	}
	k.end(t, x, m, made(handleOf(3, 5)))
	same(t, m, k.behind(t))
}

// TestFrontierGoesAgainToNoRoom has room be taken between the Load and the Cas.
func TestFrontierGoesAgainToNoRoom(t *testing.T) {
	k := ordinary()
	m, x := k.cells(t), k.new()
	steps(t, x, m, k.raise()...)
	steps(t, x, m, k.pop()...)
	steps(t, x, m, call("load", frontierAt))
	m.Store(frontierAt, 56)
	steps(t, x, m, call("cas", frontierAt, 16, 32), call("load", frontierAt))
	m.Store(frontierAt, 0) // too late: the slot is given back all the same
	steps(t, x, m, k.push()...)
	k.end(t, x, m, failed(api.ErrRoom))
}

// TestNoRoom has frontiers behind which there is no room, or that are none.
func TestNoRoom(t *testing.T) {
	for _, c := range []struct {
		n        int
		frontier int
	}{
		{12, 49}, {12, 56}, {12, 64}, {12, 65}, {12, 72}, {12, 4096}, {12, 4097}, {12, math.MaxInt}, {12, math.MaxInt - 15}, {12, 1 << 32},
		{12, -1}, {12, -8}, {12, -16}, {12, math.MinInt}, {12, math.MinInt + 1}, {12, -1 << 32},
		{1, 57}, {8, 57}, {9, 49}, {64, 1}, {57, 8}, {64, -1}, {65, 0}, {65, -8}, {256, 0}, {256, 64}, {256, -192}, {256, math.MinInt},
	} {
		k := ordinary()
		k.n, k.frontier = c.n, c.frontier
		m, x := k.cells(t), k.new()
		for _, calls := range [][]string{k.raise(), k.pop(), {call("load", frontierAt)}, k.push()} {
			steps(t, x, m, calls...)
		}
		k.end(t, x, m, failed(api.ErrRoom))
		want := k.cells(t)
		want.Store(stackAt, headOf(4, 9))
		same(t, m, want)
		if t.Failed() {
			t.Fatalf("P11.1: %d bytes behind %d", c.n, c.frontier)
		}
	}
}

// TestPushGoesAgain turns the Stack while a slot is given back.
func TestPushGoesAgain(t *testing.T) {
	k := ordinary()
	k.frontier = 56
	m, x := k.cells(t), k.new()
	for _, calls := range [][]string{k.raise(), k.pop(), {call("load", frontierAt)}} {
		steps(t, x, m, calls...)
	}
	steps(t, x, m, call("load", stackAt), call("store", linkAt(k.c, 3), 2))
	m.Store(stackAt, headOf(5, 9))
	steps(t, x, m, call("cas", stackAt, headOf(2, 8), headOf(4, 9)))
	steps(t, x, m, call("load", stackAt), call("store", linkAt(k.c, 3), 5), call("cas", stackAt, headOf(5, 9), headOf(4, 10)))
	k.end(t, x, m, failed(api.ErrRoom))
}

// TestPushThatFails has a slot that can't be given back: it is room that there is none of, all the same.
func TestPushThatFails(t *testing.T) {
	for _, word := range []int{-1, 65, headOf(0, 1<<32), math.MinInt, math.MaxInt} {
		k := ordinary()
		k.frontier = 56
		m, x := k.cells(t), k.new()
		for _, calls := range [][]string{k.raise(), k.pop(), {call("load", frontierAt)}} {
			steps(t, x, m, calls...)
		}
		m.Store(stackAt, word)
		steps(t, x, m, call("load", stackAt))
		k.end(t, x, m, failed(api.ErrRoom))
		if m.Load(stackAt) != word || m.Load(pendingAt) != 2 {
			t.Errorf("P11.1: the stack %d, pending %d", m.Load(stackAt), m.Load(pendingAt))
		}
	}
}

func TestNoSlot(t *testing.T) {
	for _, tag := range []int{0, 7, 1<<32 - 1} {
		k := ordinary()
		k.free, k.tag = nil, tag
		m, x := k.cells(t), k.new()
		steps(t, x, m, k.raise()...)
		steps(t, x, m, call("load", stackAt))
		k.end(t, x, m, failed(api.ErrSlots))
		same(t, m, k.cells(t))
	}
	k := ordinary()
	k.free, k.frontier = nil, -1 // of two things that there are none of it is the slot that is asked for first
	m, x := k.cells(t), k.new()
	steps(t, x, m, k.raise()...)
	steps(t, x, m, call("load", stackAt))
	k.end(t, x, m, failed(api.ErrSlots))
}

func TestStackThatIsNone(t *testing.T) {
	for _, word := range []int{-1, 65, 100, 1 << 19, headOf(65, 7), headOf(0, 1<<32), 1 << 62, math.MinInt, math.MaxInt} {
		k := ordinary()
		m, x := k.cells(t), k.new()
		m.Store(stackAt, word)
		steps(t, x, m, k.raise()...)
		steps(t, x, m, call("load", stackAt))
		k.end(t, x, m, failed(api.ErrForm))
		want := k.cells(t)
		want.Store(stackAt, word)
		same(t, m, want)
	}
	for _, link := range []int{-1, 65, 1 << 20, math.MinInt, math.MaxInt} {
		k := ordinary()
		m, x := k.cells(t), k.new()
		m.Store(linkAt(k.c, 3), link)
		steps(t, x, m, k.raise()...)
		steps(t, x, m, call("load", stackAt), call("load", linkAt(k.c, 3)))
		k.end(t, x, m, failed(api.ErrForm))
		want := k.cells(t)
		want.Store(linkAt(k.c, 3), link)
		same(t, m, want)
	}
}

// TestErrorsThatAreKept lets Pending change while an error is kept: it is told by the step that lowers it, not ahead.
func TestErrorsThatAreKept(t *testing.T) {
	k := ordinary()
	k.free = nil
	m, x := k.cells(t), k.new()
	steps(t, x, m, k.raise()...)
	steps(t, x, m, call("load", stackAt), call("load", pendingAt))
	m.Store(pendingAt, 8)
	steps(t, x, m, call("cas", pendingAt, 3, 2), call("load", pendingAt))
	last(t, x, m, call("cas", pendingAt, 8, 7), failed(api.ErrSlots))
}

// wrongEntries are words of no entry, and of entries that are Live.
func wrongEntries() []int {
	return []int{
		wordOf(0, 5, 1), wordOf(16, 5, 1), wordOf(4096, 0, 1), wordOf(8, 1000, 1), wordOf(8, 5, 1) + 3<<40, wordOf(8, 5, 1) + 15<<44, wordOf(8, 5, 1) + 1<<48, wordOf(0, 0, 1),
		wordOf(8, 5, 0), wordOf(0, 1001, 0), wordOf(0, 5, 0) + 1<<40, wordOf(0, 5, 0) + 1<<44, wordOf(0, 5, 0) + 1<<48, wordOf(0, 5, 0) + 1<<50, wordOf(0, 5, 0) + 1<<62,
		wordOf(4097, 5, 1), wordOf(8, 1001, 1), wordOf(8, 5, 1) + 8<<40, wordOf(8, 5, 1) + 1<<48 + 1<<40, -1, math.MinInt, math.MaxInt,
	}
}

// TestEntryThatMayNotBe has an Entry that is Live, or none: it stays as it is, and Pending is lowered.
func TestEntryThatMayNotBe(t *testing.T) {
	for _, word := range wrongEntries() {
		k := ordinary()
		m, x := k.cells(t), k.new()
		m.Store(entryAt(k.c, 3), word)
		for _, calls := range [][]string{k.raise(), k.pop(), k.room(), k.fill(), {call("load", entryAt(k.c, 3))}} {
			steps(t, x, m, calls...)
		}
		steps(t, x, m, "")
		k.end(t, x, m, failed(api.ErrForm))
		want := k.behind(t)
		want.Store(entryAt(k.c, 3), word)
		same(t, m, want)
		if t.Failed() {
			t.Fatalf("P11.1: of the entry %d", word)
		}
	}
}

// TestEntryTurns has the Entry turn while its object is made: it goes by what the Load told.
func TestEntryTurns(t *testing.T) {
	k := ordinary()
	m, x := k.cells(t), k.new()
	for _, calls := range [][]string{k.raise(), k.pop(), k.room(), k.fill()} {
		steps(t, x, m, calls...)
	}
	m.Store(entryAt(k.c, 3), wordOf(0, 6, 0))
	steps(t, x, m, call("load", entryAt(k.c, 3)))
	m.Store(entryAt(k.c, 3), -1)
	steps(t, x, m, call("store", entryAt(k.c, 3), wordOf(16, 6, 1)))
	k.end(t, x, m, made(handleOf(3, 6)))
}

// TestClears has each byte of what was made be 0, and no other one be touched.
func TestClears(t *testing.T) {
	c := api.Config{Arena: 512, Slots: 2, Threads: 1}
	for n := 1; n <= 256; n++ {
		for _, f := range []int{0, 8, 24, 511 - rounded(n), 512 - rounded(n)} {
			m := started(t, c)
			m.Store(frontierAt, f)
			if r := run(t, alloc.New(c, n), m); r != made(handleOf(0, 0)) {
				t.Fatalf("P11.1: %d bytes at %d: %v", n, f, r)
			}
			for i := range c.Arena {
				want := 1 + i%255
				if i >= f && i < f+rounded(n) {
					want = 0
				}
				if m.Byte(i) != want {
					t.Fatalf("P11.1: %d bytes at %d: byte %d is %d", n, f, i, m.Byte(i))
				}
			}
			if m.Load(frontierAt) != f+rounded(n) || m.Load(sizeAt(c, 0)) != n || m.Load(pendingAt) != 0 {
				t.Fatalf("P11.1: %d bytes at %d: frontier %d, size %d, pending %d", n, f, m.Load(frontierAt), m.Load(sizeAt(c, 0)), m.Load(pendingAt))
			}
		}
	}
}

// checkHolds has a machine hold this, asked twice.
func checkHolds(t *testing.T, x *alloc.Machine, at string, from int, size int, holds bool) {
	t.Helper()
	for range 2 {
		if f, n, is := x.Holds(); f != from || n != size || is != holds {
			t.Errorf("P11.2: %s: Holds tells %d, %d, %v, not %d, %d, %v", at, f, n, is, from, size, holds)
		}
	}
}

// goOn has a machine do so many steps, behind each of which it holds this.
func goOn(t *testing.T, x *alloc.Machine, m cells.Cells, times int, at string, from int, size int, holds bool) {
	t.Helper()
	for range times {
		x.Step(m)
		checkHolds(t, x, at, from, size, holds)
	}
}

// TestHolds asks ahead of each step and behind it.
func TestHolds(t *testing.T) {
	for _, k := range []making{
		ordinary(),
		{c: api.Config{Arena: 8, Slots: 1, Threads: 1}, free: []int{0}, n: 1},
		{c: api.Config{Arena: 4096, Slots: 64, Threads: 4}, free: []int{63}, n: 256, frontier: 4096 - 256},
		{c: api.Config{Arena: 4096, Slots: 64, Threads: 4}, free: []int{63, 2}, n: 250, frontier: 1001},
	} {
		m, x := k.cells(t), k.new()
		checkHolds(t, x, "ahead of the first step", 0, 0, false)
		goOn(t, x, m, 2+3+1, "ahead of 5", 0, 0, false)
		goOn(t, x, m, 1+rounded(k.n)+1+1, "behind 5", k.frontier, rounded(k.n), true)
		x.Step(nil)
		checkHolds(t, x, "behind a step of nil", k.frontier, rounded(k.n), true)
		goOn(t, x, m, 1, "behind 7", 0, 0, false)
		goOn(t, x, m, 2, "behind 8", 0, 0, false)
		goOn(t, x, m, 2, "behind the end", 0, 0, false)
	}
}

// TestHoldsWhatWasMoved has the Frontier's Cas not be done at first: nothing is held till it is.
func TestHoldsWhatWasMoved(t *testing.T) {
	k := ordinary()
	m, x := k.cells(t), k.new()
	goOn(t, x, m, 6, "ahead of 5", 0, 0, false)
	m.Store(frontierAt, 24)
	goOn(t, x, m, 2, "behind a Cas that is not done", 0, 0, false)
	goOn(t, x, m, 1, "behind 5", 24, 16, true)
	m.Store(frontierAt, 0)
	goOn(t, x, m, 16, "while bytes are cleared", 24, 16, true)
}

// TestHoldsNothing has machines that come to an error.
func TestHoldsNothing(t *testing.T) {
	var none *alloc.Machine
	checkHolds(t, none, "of nil", 0, 0, false)
	wrong := alloc.New(api.Config{}, 4)
	goOn(t, wrong, cells.New(100, 8), 2, "of a wrong config", 0, 0, false)
	k := ordinary()
	k.n = 257
	goOn(t, k.new(), k.cells(t), 2, "of a wrong size", 0, 0, false)
	k = ordinary()
	k.free = nil
	goOn(t, k.new(), k.cells(t), 7, "of no slot", 0, 0, false)
	k = ordinary()
	k.frontier = 56
	goOn(t, k.new(), k.cells(t), 13, "of no room", 0, 0, false)
	k = ordinary()
	m, x := k.cells(t), k.new()
	m.Store(entryAt(k.c, 3), -1)
	goOn(t, x, m, 6, "of a wrong entry", 0, 0, false)
	goOn(t, x, m, 1+16+1+1, "of a wrong entry", 16, 16, true)
	goOn(t, x, m, 5, "behind 7 of a wrong entry", 0, 0, false)
}

// TestNil has machines that are nil, or that New did not make, an m that is nil, and machines that go on behind that as if nothing had been.
func TestNil(t *testing.T) {
	k := ordinary()
	m := k.cells(t)
	last(t, nil, m, "", failed(api.ErrArg))
	last(t, &alloc.Machine{}, m, "", failed(api.ErrArg))
	same(t, m, k.cells(t))
	x := k.new()
	for _, calls := range [][]string{k.raise(), k.pop(), k.room(), k.fill(), k.enter()} {
		for _, want := range calls {
			for range 2 {
				if r, end := x.Step(nil); r != failed(api.ErrArg) || !end {
					t.Errorf("P11.1: a step of a nil m tells %v, %v", r, end)
				}
			}
			steps(t, x, m, want)
		}
	}
	x.Step(nil)
	k.end(t, x, m, made(handleOf(3, 5)))
	same(t, m, k.behind(t))
	for _, y := range []*alloc.Machine{nil, {}, alloc.New(k.c, 0), alloc.New(k.c, 8), alloc.New(api.Config{}, 8), x} {
		if r, end := y.Step(nil); r != failed(api.ErrArg) || !end {
			t.Errorf("P11.1: a step of a nil m tells %v, %v", r, end)
		}
	}
	size := alloc.New(k.c, 0)
	size.Step(nil)
	last(t, size, m, "", failed(api.ErrSize))
}

// TestWrongConfigs has no step do anything, whatever the size is.
func TestWrongConfigs(t *testing.T) {
	for _, c := range wrongConfigs() {
		for _, n := range []int{1, 8, 256, 0, -1, 257, math.MinInt, math.MaxInt} {
			k := ordinary()
			m := k.cells(t)
			last(t, alloc.New(c, n), m, "", failed(api.ErrArg))
			same(t, m, k.cells(t))
		}
	}
}

// TestNoPending has cells without the word of Pending: each step ends, though nothing is ever done.
func TestNoPending(t *testing.T) {
	var none *cells.Plain
	var noAtomic *cells.Atomic
	for _, m := range []cells.Cells{cells.New(1, 8), cells.New(2, 0), cells.NewAtomic(2, 8), none, noAtomic} {
		x := ordinary().new()
		for range 50 {
			steps(t, x, m, call("load", pendingAt), call("cas", pendingAt, 0, 1))
		}
		if m.Load(0) != 0 || m.Load(1) != 0 {
			t.Errorf("P11.1: words %d, %d", m.Load(0), m.Load(1))
		}
	}
}

// TestTooFewCells has cells without slots' words, and without bytes: they tell 0, and nothing is stored.
func TestTooFewCells(t *testing.T) {
	k := ordinary()
	k.gen, k.free = 0, []int{3}
	for _, m := range []cells.Cells{cells.New(3, 0), cells.NewAtomic(3, 20)} {
		m.Store(frontierAt, k.frontier)
		m.Store(stackAt, headOf(4, k.tag))
		m.Store(pendingAt, k.pending)
		x := k.new()
		for _, calls := range [][]string{k.raise(), k.pop(), k.room(), k.fill(), k.enter()} {
			steps(t, x, m, calls...)
		}
		k.end(t, x, m, made(handleOf(3, 0)))
		if m.Load(frontierAt) != 32 || m.Load(stackAt) != headOf(0, 8) || m.Load(pendingAt) != 2 {
			t.Errorf("P11.1: without slots' words: %d, %d, %d", m.Load(frontierAt), m.Load(stackAt), m.Load(pendingAt))
		}
	}
}

// TestSlotThatThereIsNot has a Stack whose top is a slot behind the layout's last one: it has no words.
func TestSlotThatThereIsNot(t *testing.T) {
	for _, top := range []int{6, 7, 64} {
		k := ordinary()
		m := k.cells(t)
		m.Store(stackAt, headOf(top, 7))
		if r := run(t, k.new(), m); r != made(handleOf(top-1, 0)) {
			t.Errorf("P11.1: of slot %d: %v", top-1, r)
		}
		if m.Load(stackAt) != headOf(0, 8) || m.Load(pendingAt) != 2 || m.Load(frontierAt) != 32 {
			t.Errorf("P11.1: of slot %d: %d, %d, %d", top-1, m.Load(stackAt), m.Load(pendingAt), m.Load(frontierAt))
		}
		m.Store(stackAt, headOf(top, 7))
		m.Store(frontierAt, 64)
		x := k.new()
		steps(t, x, m, k.raise()...)
		x.Step(m)
		x.Step(m)
		steps(t, x, m, call("cas", stackAt, headOf(top, 7), headOf(0, 8)), call("load", frontierAt))
		steps(t, x, m, "") // the Push's one step
		k.end(t, x, m, failed(api.ErrRoom))
	}
}

// TestMachinesAreApart has machines by turns over cells of their own: none keeps anything of another one.
func TestMachinesAreApart(t *testing.T) {
	k := ordinary()
	other := making{c: api.Config{Arena: 512, Slots: 9, Threads: 4}, free: []int{8, 7}, frontier: 128, gen: 3, n: 15}
	m, o, x, y := k.cells(t), other.cells(t), k.new(), other.new()
	first := slices.Concat(k.raise(), k.pop(), k.room(), k.fill(), k.enter())
	second := slices.Concat(other.raise(), other.pop(), other.room(), other.fill(), other.enter())
	for i := range first {
		steps(t, x, m, first[i])
		steps(t, y, o, second[i])
	}
	k.end(t, x, m, made(handleOf(3, 5)))
	other.end(t, y, o, made(handleOf(8, 3)))
	same(t, m, k.behind(t))
	same(t, o, other.behind(t))
}
