package layout_test

import (
	"math"
	"testing"

	"sidings/api"
	"sidings/cells"
	"sidings/head"
	"sidings/layout"
)

func may(c api.Config) bool {
	return c.Arena >= 8 && c.Arena <= 4096 && c.Arena%8 == 0 && c.Slots >= 1 && c.Slots <= 64 && c.Threads >= 1 && c.Threads <= 4
}

// someConfigs are configs that may be, and ones that may not.
func someConfigs() []api.Config {
	var l []api.Config
	for _, arena := range []int{math.MinInt, -4096, -8, -1, 0, 1, 4, 7, 8, 9, 12, 16, 64, 1000, 1001, 4088, 4090, 4095, 4096, 4097, 4104, 8192, 1 << 32, math.MaxInt, math.MaxInt - 7} {
		for _, slots := range []int{math.MinInt, -1, 0, 1, 2, 3, 8, 63, 64, 65, 128, 1 << 32, 1<<32 + 1, math.MaxInt} {
			for _, threads := range []int{math.MinInt, -1, 0, 1, 2, 3, 4, 5, 1 << 32, 1<<32 + 1, math.MaxInt} {
				l = append(l, api.Config{Arena: arena, Slots: slots, Threads: threads})
			}
		}
	}
	return l
}

// goodConfigs has all counts of slots and threads.
func goodConfigs() []api.Config {
	var l []api.Config
	for slots := 1; slots <= 64; slots++ {
		for threads := 1; threads <= 4; threads++ {
			for _, arena := range []int{8, 64, 4096} {
				l = append(l, api.Config{Arena: arena, Slots: slots, Threads: threads})
			}
		}
	}
	return l
}

func mustOf(t *testing.T, c api.Config) layout.Layout {
	t.Helper()
	l, err := layout.Of(c)
	if err != api.OK {
		t.Fatalf("P6.1: Of(%v): %d", c, err)
	}
	return l
}

func wordsOf(c api.Config) int { return 4 + c.Threads + 3*c.Slots }

// wrongNumbers are threads, or slots, of which there are so many, that there are not.
func wrongNumbers(n int) []int {
	return []int{math.MinInt, math.MinInt + 1, -1 << 32, -n, -4, -2, -1, n, n + 1, n + 4, 64, 65, 1 << 32, 1<<32 + 1, 1 << 62, math.MaxInt - 4, math.MaxInt}
}

func TestWhichConfigsMayBe(t *testing.T) {
	for _, c := range someConfigs() {
		l, err := layout.Of(c)
		switch {
		case may(c) && (err != api.OK || l == layout.Layout{}):
			t.Errorf("P6.1: Of(%v): %v, %d", c, l, err)
		case !may(c) && (err != api.ErrArg || l != layout.Layout{}):
			t.Errorf("P6.1: Of(%v): %v, %d, not the zero layout, ErrArg", c, l, err)
		}
	}
}

func TestPlaces(t *testing.T) {
	for _, c := range goodConfigs() {
		l := mustOf(t, c)
		if l.Frontier() != 0 || l.Stack() != 1 || l.Pending() != 2 || l.Epoch() != 3 {
			t.Errorf("P6.1: %v: %d, %d, %d, %d, not 0 to 3", c, l.Frontier(), l.Stack(), l.Pending(), l.Epoch())
		}
		at := 4
		for thread := range c.Threads {
			if n := l.Note(thread); n != at {
				t.Errorf("P6.1: %v: Note(%d): %d, not %d", c, thread, n, at)
			}
			at++
		}
		for s := range c.Slots {
			if l.Entry(s) != at || l.Size(s) != at+1 || l.Link(s) != at+2 {
				t.Errorf("P6.1: %v: slot %d: %d, %d, %d, not from %d on", c, s, l.Entry(s), l.Size(s), l.Link(s), at)
			}
			at += 3
		}
		if n := l.Words(); n != at {
			t.Errorf("P6.1: %v: %d words, not %d", c, n, at)
		}
	}
}

func TestPlacesByNumber(t *testing.T) {
	two := mustOf(t, api.Config{Arena: 8, Slots: 1, Threads: 2})
	if two.Entry(0) != 6 || two.Size(0) != 7 || two.Link(0) != 8 || two.Words() != 9 {
		t.Errorf("P6.1: two threads, one slot: %d, %d, %d, %d words", two.Entry(0), two.Size(0), two.Link(0), two.Words())
	}
	one := mustOf(t, api.Config{Arena: 4096, Slots: 1, Threads: 1})
	if one.Note(0) != 4 || one.Entry(0) != 5 || one.Link(0) != 7 || one.Words() != 8 {
		t.Errorf("P6.1: one thread, one slot: %d, %d, %d, %d words", one.Note(0), one.Entry(0), one.Link(0), one.Words())
	}
	most := mustOf(t, api.Config{Arena: 4096, Slots: 64, Threads: 4})
	if most.Note(3) != 7 || most.Entry(0) != 8 || most.Entry(63) != 197 || most.Link(63) != 199 || most.Words() != 200 {
		t.Errorf("P6.1: four threads, 64 slots: %d, %d, %d, %d, %d words", most.Note(3), most.Entry(0), most.Entry(63), most.Link(63), most.Words())
	}
}

func TestThreadsAndSlotsThatThereAreNot(t *testing.T) {
	for _, c := range goodConfigs() {
		l := mustOf(t, c)
		for _, n := range wrongNumbers(c.Threads) {
			if at := l.Note(n); (n < 0 || n >= c.Threads) && at != -1 {
				t.Errorf("P6.1: %v: Note(%d): %d", c, n, at)
			}
		}
		for _, s := range wrongNumbers(c.Slots) {
			if s >= 0 && s < c.Slots {
				continue
			}
			if l.Entry(s) != -1 || l.Size(s) != -1 || l.Link(s) != -1 {
				t.Errorf("P6.1: %v: slot %d: %d, %d, %d", c, s, l.Entry(s), l.Size(s), l.Link(s))
			}
		}
	}
}

func TestZeroLayout(t *testing.T) {
	var l layout.Layout
	if n := l.Words(); n != 0 {
		t.Errorf("P6.1: the zero layout has %d words", n)
	}
	if l.Frontier() != -1 || l.Stack() != -1 || l.Pending() != -1 || l.Epoch() != -1 {
		t.Errorf("P6.1: the zero layout: %d, %d, %d, %d", l.Frontier(), l.Stack(), l.Pending(), l.Epoch())
	}
	for _, n := range append(wrongNumbers(0), 0, 1, 3) {
		if l.Note(n) != -1 || l.Entry(n) != -1 || l.Size(n) != -1 || l.Link(n) != -1 {
			t.Errorf("P6.1: the zero layout, of %d: %d, %d, %d, %d", n, l.Note(n), l.Entry(n), l.Size(n), l.Link(n))
		}
	}
}

// TestLayoutsAreTheSame holds layouts against each other as structs: the same config has the same one.
func TestLayoutsAreTheSame(t *testing.T) {
	for _, c := range goodConfigs() {
		l := mustOf(t, c)
		if l != mustOf(t, c) {
			t.Errorf("P6.1: %v has two layouts", c)
		}
		if c.Slots < 64 && l == mustOf(t, api.Config{Arena: c.Arena, Slots: c.Slots + 1, Threads: c.Threads}) {
			t.Errorf("P6.1: %v has the layout of a slot more", c)
		}
		if c.Threads < 4 && l == mustOf(t, api.Config{Arena: c.Arena, Slots: c.Slots, Threads: c.Threads + 1}) {
			t.Errorf("P6.1: %v has the layout of a thread more", c)
		}
	}
}

// TestNoWordIsShared has no oracle: places are held against each other alone.
func TestNoWordIsShared(t *testing.T) {
	for _, c := range goodConfigs() {
		l := mustOf(t, c)
		places := []int{l.Frontier(), l.Stack(), l.Pending(), l.Epoch()}
		for thread := range c.Threads {
			places = append(places, l.Note(thread))
		}
		for s := range c.Slots {
			places = append(places, l.Entry(s), l.Size(s), l.Link(s))
		}
		used := make([]int, l.Words())
		for _, at := range places {
			if at < 0 || at >= len(used) {
				t.Fatalf("P6.3: %v: place %d of %d", c, at, len(used))
			}
			used[at]++
		}
		for at, n := range used {
			if n != 1 {
				t.Errorf("P6.3: %v: word %d is used %d times", c, at, n)
			}
		}
	}
}

// kinds makes cells of both kinds, behind the interface.
func kinds(words int, bytes int) []cells.Cells {
	return []cells.Cells{cells.New(words, bytes), cells.NewAtomic(words, bytes)}
}

// dirty has each word, and byte, hold something.
func dirty(m cells.Cells) {
	for i := range m.Words() {
		m.Store(i, dirtyWord(i))
	}
	for i := range m.Bytes() {
		m.SetByte(i, dirtyByte(i))
	}
}

func dirtyWord(i int) int { return -1 - i*i }
func dirtyByte(i int) int { return (i*5 + 1) % 256 }

// checkWords holds words against those wanted, and those behind them, and all bytes, against what dirty had put there.
func checkWords(t *testing.T, m cells.Cells, want []int, what api.Config) {
	t.Helper()
	for i := range m.Words() {
		n := dirtyWord(i)
		if i < len(want) {
			n = want[i]
		}
		if got := m.Load(i); got != n {
			t.Errorf("P6.2: Start of %v: word %d is %d, not %d", what, i, got, n)
		}
	}
	for i := range m.Bytes() {
		if got := m.Byte(i); got != dirtyByte(i) {
			t.Errorf("P6.2: Start of %v: byte %d is %d, not %d", what, i, got, dirtyByte(i))
		}
	}
}

// wantStart is written out word by word, by numbers alone.
func wantStart(c api.Config) []int {
	want := make([]int, wordsOf(c))
	want[1] = 1
	for s := range c.Slots {
		link := s + 2
		if s == c.Slots-1 {
			link = 0
		}
		want[4+c.Threads+3*s+2] = link
	}
	return want
}

func TestStart(t *testing.T) {
	for _, c := range goodConfigs() {
		words := wordsOf(c)
		for _, more := range []int{0, 1, 50} {
			for _, m := range kinds(words+more, min(c.Arena+more, 4096)) {
				dirty(m)
				if err := layout.Start(m, c); err != api.OK {
					t.Errorf("P6.2: Start of %v with %d more: %d", c, more, err)
				}
				checkWords(t, m, wantStart(c), c)
			}
		}
	}
}

func TestStartByNumber(t *testing.T) {
	m := cells.New(12, 8)
	dirty(m)
	c := api.Config{Arena: 8, Slots: 2, Threads: 1}
	if err := layout.Start(m, c); err != api.OK {
		t.Fatalf("P6.2: %d", err)
	}
	checkWords(t, m, []int{0, 1, 0, 0, 0, 0, 0, 2, 0, 0, 0}, c)
}

func TestStartAgain(t *testing.T) {
	c := api.Config{Arena: 64, Slots: 5, Threads: 3}
	for _, m := range kinds(wordsOf(c), 64) {
		dirty(m)
		for range 2 {
			if err := layout.Start(m, c); err != api.OK {
				t.Fatalf("P6.2: %d", err)
			}
			checkWords(t, m, wantStart(c), c)
		}
	}
}

// TestStartTooSmall takes a word, or a byte, or both, of what there must be.
func TestStartTooSmall(t *testing.T) {
	for _, c := range goodConfigs() {
		words := wordsOf(c)
		for _, size := range [][2]int{{words - 1, c.Arena}, {words, c.Arena - 1}, {words - 1, c.Arena - 1}, {1, c.Arena}, {words, 0}, {4096, c.Arena - 1}, {words - 1, 4096}} {
			for _, m := range kinds(size[0], size[1]) {
				checkRefused(t, m, c)
			}
		}
	}
}

func checkRefused(t *testing.T, m cells.Cells, c api.Config) {
	t.Helper()
	dirty(m)
	if err := layout.Start(m, c); err != api.ErrArg {
		t.Errorf("P6.2: Start of %d words, %d bytes, %v: %d, not ErrArg", m.Words(), m.Bytes(), c, err)
	}
	checkWords(t, m, nil, c)
}

func TestStartOfWrongConfigs(t *testing.T) {
	m := kinds(4096, 4096)
	for _, c := range someConfigs() {
		if may(c) {
			continue
		}
		for i := range m {
			if err := layout.Start(m[i], c); err != api.ErrArg {
				t.Errorf("P6.2: Start of %v: %d, not ErrArg", c, err)
			}
		}
	}
	for i := range m {
		checkZero(t, m[i])
	}
}

func checkZero(t *testing.T, m cells.Cells) {
	t.Helper()
	for i := range m.Words() {
		if m.Load(i) != 0 {
			t.Errorf("P6.2: configs that may not be changed word %d to %d", i, m.Load(i))
		}
	}
	for i := range m.Bytes() {
		if m.Byte(i) != 0 {
			t.Errorf("P6.2: configs that may not be changed byte %d to %d", i, m.Byte(i))
		}
	}
}

func TestStartOfNil(t *testing.T) {
	for _, m := range []cells.Cells{nil, (*cells.Plain)(nil), (*cells.Atomic)(nil), &cells.Plain{}, &cells.Atomic{}} {
		for _, c := range []api.Config{{Arena: 8, Slots: 1, Threads: 1}, {Arena: 4096, Slots: 64, Threads: 4}, {}, {Arena: 9, Slots: 1, Threads: 1}} {
			if err := layout.Start(m, c); err != api.ErrArg {
				t.Errorf("P6.2: Start of no cells, %v: %d, not ErrArg", c, err)
			}
		}
	}
}

// TestAllSlotsAreFree takes slots by the links, as chapter 4 has it: each one comes once, in order, and then none.
func TestAllSlotsAreFree(t *testing.T) {
	for _, c := range goodConfigs() {
		l, m := mustOf(t, c), cells.New(wordsOf(c), c.Arena)
		layout.Start(m, c)
		word := m.Load(l.Stack())
		for s := range c.Slots {
			next, slot, err := head.Pop(word, m.Load(l.Link(s)))
			if err != api.OK || slot != s {
				t.Fatalf("P6.2: %v: pop %d: slot %d, %d", c, s, slot, err)
			}
			word = next
		}
		if top, tag, err := head.Unpack(word); top != 0 || tag != c.Slots || err != api.OK {
			t.Errorf("P6.2: %v: behind all pops: %d, %d, %d", c, top, tag, err)
		}
	}
}
