package model_test

import (
	"math"
	"slices"
	"testing"

	"sidings/api"
	"sidings/model"
)

// handleOf is a handle by sums alone.
func handleOf(slot int, gen int) int {
	return slot + gen*1048576 + 1099511627776
}

// h1 to h6 are handles, their edges among them.
var (
	h1 = handleOf(0, 0)
	h2 = handleOf(63, 1000)
	h3 = handleOf(0, 1)
	h4 = handleOf(63, 0)
	h5 = handleOf(0, 1000)
	h6 = handleOf(7, 77)
)

// noHandles are numbers that no slot and no generation have.
func noHandles() []int {
	return []int{
		math.MinInt, -h1, -1, 0, 1, 63, h1 - 1, // too low
		handleOf(64, 0), handleOf(64, 1000), handleOf(-1, 1), handleOf(0, 1001), handleOf(63, 1001), handleOf(0, -1), // no slot, no generation
		2 * h1, h1 + 1<<41, h1 + 1<<62, h1 + math.MinInt, math.MaxInt, // bits above
	}
}

// manyNumbers are sizes, places and bytes, of which few may be.
func manyNumbers() []int {
	return []int{math.MinInt, math.MinInt + 1, -1 << 32, -257, -256, -255, -8, -1, 0, 1, 2, 3, 4, 7, 8, 254, 255, 256, 257, 258, 264, 512, 4096, 1 << 32, 1<<32 + 1, 1 << 40, math.MaxInt - 1, math.MaxInt}
}

func codes() []api.Errno {
	return []api.Errno{math.MinInt, -1, api.OK, api.ErrArg, api.ErrForm, api.ErrOver, api.ErrStale, api.ErrRange, api.ErrPinned, api.ErrPinOver, api.ErrNotPinned, api.ErrSize, api.ErrRoom, api.ErrSlots, api.ErrLine, 13, math.MaxInt}
}

func result(err api.Errno) api.Result { return api.Result{Code: err} }

func alloc(n int) api.Op                 { return api.Op{Do: 0, N: n} }
func free(h int) api.Op                  { return api.Op{Do: 1, H: h} }
func read(h int, off int) api.Op         { return api.Op{Do: 2, H: h, Off: off} }
func write(h int, off int, b int) api.Op { return api.Op{Do: 3, H: h, Off: off, N: b} }
func pin(h int) api.Op                   { return api.Op{Do: 4, H: h} }
func unpin(h int) api.Op                 { return api.Op{Do: 5, H: h} }
func told(h int) api.Result              { return api.Result{N: h} }
func byteOf(n int) api.Result            { return api.Result{N: n} }

// must has an op be answered by a Result.
func must(t *testing.T, m *model.Map, o api.Op, r api.Result) {
	t.Helper()
	if !m.Try(o, r) {
		t.Fatalf("P7.2: Try(%v, %v): false", o, r)
	}
}

// refuse has an op not be answered by a Result, and nothing be done.
func refuse(t *testing.T, m *model.Map, o api.Op, r api.Result) {
	t.Helper()
	before := m.Copy()
	if m.Try(o, r) {
		t.Errorf("P7.2: Try(%v, %v): true", o, r)
	}
	if !m.Same(before) {
		t.Errorf("P7.2: Try(%v, %v) was false, and changed the map", o, r)
	}
}

// answers holds Answer against a Result, and has it change nothing.
func answers(t *testing.T, m *model.Map, o api.Op, want api.Result, wantHas bool) {
	t.Helper()
	before := m.Copy()
	if r, has := m.Answer(o); r != want || has != wantHas {
		t.Errorf("P7.1: Answer(%v): %v, %v, not %v, %v", o, r, has, want, wantHas)
	}
	if !m.Same(before) {
		t.Errorf("P7.1: Answer(%v) changed the map", o)
	}
}

// sample has objects of 1, 256 and 4 bytes (h1, h2, h3), pinned 0, 7 and 6 times, and one that was freed (h4).
func sample(t *testing.T) *model.Map {
	t.Helper()
	m := model.New()
	must(t, m, alloc(1), told(h1))
	must(t, m, alloc(256), told(h2))
	must(t, m, alloc(4), told(h3))
	must(t, m, alloc(8), told(h4))
	must(t, m, free(h4), result(0))
	for i := range 256 {
		must(t, m, write(h2, i, i), result(0))
	}
	must(t, m, write(h3, 0, 200), result(0))
	must(t, m, write(h3, 3, 100), result(0))
	for range 7 {
		must(t, m, pin(h2), result(0))
	}
	for range 6 {
		must(t, m, pin(h3), result(0))
	}
	return m
}

func TestAnswerEdges(t *testing.T) {
	m := sample(t)
	for _, c := range []struct {
		o    api.Op
		want api.Result
		has  bool
	}{
		{alloc(1), result(0), false},
		{alloc(256), result(0), false},
		{alloc(0), result(api.ErrSize), true},
		{alloc(257), result(api.ErrSize), true},
		{alloc(-1), result(api.ErrSize), true},
		{api.Op{Do: 0, H: h1, Off: 99, N: 8}, result(0), false},
		{api.Op{Do: 0, H: h1, Off: 99, N: 0}, result(api.ErrSize), true},
		{free(h1), result(0), true},
		{free(h2), result(api.ErrPinned), true},
		{free(h3), result(api.ErrPinned), true},
		{free(h4), result(api.ErrStale), true},
		{free(h5), result(api.ErrStale), true},
		{api.Op{Do: 1, H: h1, Off: -1, N: -1}, result(0), true},
		{read(h1, 0), byteOf(0), true},
		{read(h1, 1), result(api.ErrRange), true},
		{read(h1, -1), result(api.ErrRange), true},
		{read(h2, 0), byteOf(0), true},
		{read(h2, 1), byteOf(1), true},
		{read(h2, 255), byteOf(255), true},
		{read(h2, 256), result(api.ErrRange), true},
		{read(h2, -1), result(api.ErrRange), true},
		{read(h3, 0), byteOf(200), true},
		{read(h3, 3), byteOf(100), true},
		{read(h3, 4), result(api.ErrRange), true},
		{read(h4, 0), result(api.ErrStale), true},
		{read(h4, 99), result(api.ErrStale), true},
		{write(h1, 0, 9), result(0), true},
		{write(h1, 1, 9), result(api.ErrRange), true},
		{write(h2, 255, -9), result(0), true},
		{write(h2, 256, 9), result(api.ErrRange), true},
		{write(h3, -1, 9), result(api.ErrRange), true},
		{write(h4, 0, 9), result(api.ErrStale), true},
		{pin(h1), result(0), true},
		{pin(h2), result(api.ErrPinOver), true},
		{pin(h3), result(0), true},
		{pin(h4), result(api.ErrStale), true},
		{unpin(h1), result(api.ErrNotPinned), true},
		{unpin(h2), result(0), true},
		{unpin(h3), result(0), true},
		{unpin(h4), result(api.ErrStale), true},
		{api.Op{Do: 6, H: h1}, result(api.ErrArg), true},
		{api.Op{Do: -1, H: h1}, result(api.ErrArg), true},
		{api.Op{Do: 6, H: h4}, result(api.ErrArg), true},
		{api.Op{Do: -1}, result(api.ErrArg), true},
		{api.Op{Do: 1 << 32, N: 8}, result(api.ErrArg), true},
		{api.Op{Do: math.MinInt, H: h2}, result(api.ErrArg), true},
		{api.Op{Do: math.MaxInt, H: h2, Off: 1, N: 1}, result(api.ErrArg), true},
	} {
		answers(t, m, c.o, c.want, c.has)
	}
}

func TestSizes(t *testing.T) {
	for _, m := range []*model.Map{model.New(), sample(t)} {
		for _, n := range append(manyNumbers(), 100, 200) {
			if n >= 1 && n <= 256 {
				answers(t, m, alloc(n), api.Result{}, false)
				continue
			}
			answers(t, m, alloc(n), result(api.ErrSize), true)
			refuse(t, m, alloc(n), told(h6))
			refuse(t, m, alloc(n), result(api.ErrRoom))
			must(t, m, alloc(n), result(api.ErrSize))
		}
	}
}

func TestPlaces(t *testing.T) {
	m := sample(t)
	for h, size := range map[int]int{h1: 1, h2: 256, h3: 4} {
		for _, off := range manyNumbers() {
			r, _ := m.Answer(read(h, off))
			w, _ := m.Answer(write(h, off, 1))
			want := result(api.ErrRange)
			if off >= 0 && off < size {
				want = result(0)
			}
			if w != want || r.Code != want.Code {
				t.Errorf("P7.1: at %d of %d bytes: read %v, write %v, not %v", off, size, r, w, want)
			}
		}
	}
}

// TestOneResult tries each Result that is near an op's Answer: that alone is taken.
func TestOneResult(t *testing.T) {
	ops := []api.Op{
		alloc(0), alloc(257), free(h1), free(h2), free(h4), read(h1, 0), read(h3, 3), read(h3, 4), read(h4, 0), write(h3, 0, 5), write(h3, 4, 5), write(h4, 0, 0), pin(h1), pin(h2), pin(h4), unpin(h1), unpin(h3), unpin(h5), {Do: 6, H: h1}, {Do: -1, H: h4},
	}
	for _, o := range ops {
		own, has := sample(t).Answer(o)
		if !has {
			t.Fatalf("P7.1: Answer(%v): false", o)
		}
		for _, code := range codes() {
			for _, n := range []int{math.MinInt, -1, own.N, 0, 1, own.N + 1, own.N - 1, own.N + 256, h1, h6} {
				m, r := sample(t), api.Result{Code: code, N: n}
				if r != own {
					refuse(t, m, o, r)
					continue
				}
				must(t, m, o, r)
				if same := m.Same(sample(t)); same != (r.Code != api.OK || o.Do == api.Read) {
					t.Errorf("P7.2: Try(%v, %v): the map is as it was: %v", o, r, same)
				}
			}
		}
	}
}

// TestResultsOfAlloc tries Results of an Alloc that has no Answer.
func TestResultsOfAlloc(t *testing.T) {
	for _, code := range codes() {
		for _, n := range append(noHandles(), h1, h2, h3, h4, h5, h6) {
			m, r := sample(t), api.Result{Code: code, N: n}
			switch {
			case (code == api.ErrRoom || code == api.ErrSlots) && n == 0:
				must(t, m, alloc(8), r)
				if !m.Same(sample(t)) {
					t.Errorf("P7.2: Alloc with %v changed the map", r)
				}
			case code == api.OK && (n == h5 || n == h6):
				must(t, m, alloc(8), r)
				if m.Same(sample(t)) || !slices.Contains(m.Live(), n) {
					t.Errorf("P7.2: Alloc with %v: live are %v", r, m.Live())
				}
			default:
				refuse(t, m, alloc(8), r)
			}
		}
	}
}

func TestAllocMakesZeros(t *testing.T) {
	m := model.New()
	for i, n := range []int{1, 2, 7, 8, 9, 255, 256} {
		h := handleOf(i, i)
		must(t, m, api.Op{Do: 0, H: h1, Off: 5, N: n}, told(h))
		if b := m.Bytes(h); len(b) != n || slices.Max(b) != 0 || slices.Min(b) != 0 {
			t.Errorf("P7.2: Alloc of %d: %v", n, b)
		}
		if m.Pins(h) != 0 {
			t.Errorf("P7.2: Alloc of %d: pinned %d times", n, m.Pins(h))
		}
		must(t, m, read(h, n-1), byteOf(0))
		refuse(t, m, read(h, n), byteOf(0))
	}
}

func TestHandlesAreToldOnce(t *testing.T) {
	m := model.New()
	must(t, m, alloc(8), told(h1))
	refuse(t, m, alloc(8), told(h1))
	refuse(t, m, alloc(9), told(h1))
	must(t, m, alloc(8), told(h3))
	must(t, m, free(h1), result(0))
	refuse(t, m, alloc(8), told(h1))
	refuse(t, m, alloc(8), told(h3))
	must(t, m, free(h3), result(0))
	refuse(t, m, alloc(8), told(h3))
	must(t, m, alloc(8), result(api.ErrRoom))
	must(t, m, alloc(8), result(api.ErrSlots))
	must(t, m, alloc(8), told(h2))
	if l := m.Live(); !slices.Equal(l, []int{h2}) {
		t.Errorf("P7.3: live are %v, not %d alone", l, h2)
	}
}

func TestFirstExample(t *testing.T) {
	m := model.New()
	must(t, m, alloc(4), told(h1))
	answers(t, m, read(h1, 3), byteOf(0), true)
}

func TestWritesLowestBits(t *testing.T) {
	m := model.New()
	must(t, m, alloc(3), told(h1))
	for _, c := range [][2]int{{0, 0}, {1, 1}, {127, 127}, {128, 128}, {255, 255}, {256, 0}, {257, 1}, {511, 255}, {-1, 255}, {-2, 254}, {-255, 1}, {-256, 0}, {-257, 255}, {1 << 40, 0}, {1<<40 + 77, 77}, {math.MaxInt, 255}, {math.MinInt, 0}, {math.MinInt + 3, 3}} {
		for off := range 3 {
			rest := m.Bytes(h1)
			must(t, m, write(h1, off, c[0]), result(0))
			rest[off] = c[1]
			must(t, m, read(h1, off), byteOf(c[1]))
			if b := m.Bytes(h1); !slices.Equal(b, rest) {
				t.Errorf("P7.2: Write of %d at %d: %v, not %v", c[0], off, b, rest)
			}
		}
	}
}

func TestPinsAreCounted(t *testing.T) {
	m := model.New()
	must(t, m, alloc(1), told(h1))
	must(t, m, alloc(1), told(h3))
	for n := range 7 {
		if m.Pins(h1) != n {
			t.Errorf("P7.3: pinned %d times: Pins %d", n, m.Pins(h1))
		}
		must(t, m, pin(h1), result(0))
		must(t, m, free(h1), result(api.ErrPinned))
	}
	must(t, m, pin(h1), result(api.ErrPinOver))
	if m.Pins(h1) != 7 || m.Pins(h3) != 0 {
		t.Errorf("P7.2: pinned 7 times, and not at all: Pins %d, %d", m.Pins(h1), m.Pins(h3))
	}
	for n := 6; n >= 0; n-- {
		must(t, m, free(h1), result(api.ErrPinned))
		must(t, m, unpin(h1), result(0))
		if m.Pins(h1) != n {
			t.Errorf("P7.2: unpinned: Pins %d, not %d", m.Pins(h1), n)
		}
	}
	must(t, m, unpin(h1), result(api.ErrNotPinned))
	must(t, m, free(h1), result(0))
	must(t, m, unpin(h1), result(api.ErrStale))
	must(t, m, pin(h1), result(api.ErrStale))
}

func TestWhatIsNotLive(t *testing.T) {
	m := sample(t)
	for _, h := range append(noHandles(), h4, h5, h6) {
		for _, o := range []api.Op{free(h), read(h, 0), read(h, -1), write(h, 0, 1), write(h, 300, 1), pin(h), unpin(h)} {
			answers(t, m, o, result(api.ErrStale), true)
			refuse(t, m, o, result(0))
			must(t, m, o, result(api.ErrStale))
		}
		answers(t, m, api.Op{Do: 6, H: h}, result(api.ErrArg), true)
		if b := m.Bytes(h); len(b) != 0 || m.Pins(h) != 0 {
			t.Errorf("P7.3: %d is not live: %v, %d", h, b, m.Pins(h))
		}
	}
	if !m.Same(sample(t)) {
		t.Error("P7.2: errors changed the map")
	}
}

func TestLiveRises(t *testing.T) {
	m := model.New()
	if l := m.Live(); len(l) != 0 {
		t.Errorf("P7.3: New: live are %v", l)
	}
	for _, h := range []int{h2, h1, h6, h5, h4, h3} {
		must(t, m, alloc(8), told(h))
	}
	if l := m.Live(); !slices.Equal(l, []int{h1, h4, h3, h6, h5, h2}) {
		t.Errorf("P7.3: live are %v", l)
	}
	must(t, m, free(h6), result(0))
	if l := m.Live(); !slices.Equal(l, []int{h1, h4, h3, h5, h2}) {
		t.Errorf("P7.3: live are %v", l)
	}
}

// TestAnswersAreNewMemory changes what was told: the map is as it was.
func TestAnswersAreNewMemory(t *testing.T) {
	m := sample(t)
	l, b := m.Live(), m.Bytes(h2)
	for i := range l {
		l[i] = -1
	}
	for i := range b {
		b[i] = -1
	}
	if !m.Same(sample(t)) || !slices.Equal(m.Live(), sample(t).Live()) || !slices.Equal(m.Bytes(h2), sample(t).Bytes(h2)) {
		t.Error("R5: what was told shares memory with the map")
	}
}

// changes are ops, each of which makes the sample another map.
func changes() map[api.Op]api.Result {
	return map[api.Op]api.Result{
		alloc(4):          told(h6),
		alloc(256):        told(h5),
		free(h1):          result(0),
		write(h1, 0, 1):   result(0),
		write(h2, 0, 1):   result(0),
		write(h2, 255, 0): result(0),
		pin(h1):           result(0),
		pin(h3):           result(0),
		unpin(h2):         result(0),
	}
}

func TestCopies(t *testing.T) {
	for o, r := range changes() {
		m := sample(t)
		c := m.Copy()
		if c == m || !c.Same(m) || !m.Same(c) {
			t.Fatalf("P7.3: a copy is not like what it is of, or is that")
		}
		must(t, c, o, r)
		if !m.Same(sample(t)) || m.Same(c) || c.Same(m) {
			t.Errorf("P7.3: %v of a copy: what it is of is as it was: %v, like the copy: %v", o, m.Same(sample(t)), m.Same(c))
		}
		m = sample(t)
		c = m.Copy()
		must(t, m, o, r)
		if !c.Same(sample(t)) || m.Same(c) || c.Same(m) {
			t.Errorf("P7.3: %v: the copy is as it was: %v, like what it is of: %v", o, c.Same(sample(t)), m.Same(c))
		}
		must(t, c, o, r)
		if !m.Same(c) || !c.Same(m) {
			t.Errorf("P7.3: %v of both: they are not like each other", o)
		}
	}
}

// TestCopiesKnowWhatWasTold: a handle that was told ahead of a copy was told to it, too; one told behind it was not.
func TestCopiesKnowWhatWasTold(t *testing.T) {
	m := sample(t)
	c := m.Copy()
	refuse(t, c, alloc(8), told(h1))
	refuse(t, c, alloc(8), told(h4))
	must(t, m, alloc(8), told(h6))
	must(t, c, alloc(9), told(h6))
	if n := len(m.Bytes(h6)); n != 8 || len(c.Bytes(h6)) != 9 {
		t.Errorf("P7.3: told to both: %d bytes, %d in the copy", n, len(c.Bytes(h6)))
	}
	empty := model.New()
	c = empty.Copy()
	must(t, c, alloc(8), told(h6))
	must(t, empty, alloc(8), told(h6))
}

func TestSame(t *testing.T) {
	two := func(o api.Op, r api.Result, p api.Op, s api.Result) *model.Map {
		m := model.New()
		must(t, m, o, r)
		must(t, m, p, s)
		return m
	}
	freed := two(alloc(8), told(h1), free(h1), result(0))
	maps := []*model.Map{
		model.New(),
		freed,
		two(alloc(8), told(h3), free(h3), result(0)),
		two(alloc(8), told(h1), alloc(8), told(h3)),
		two(alloc(8), told(h1), alloc(9), told(h3)),
		two(alloc(9), told(h1), alloc(8), told(h3)),
		two(alloc(8), told(h1), pin(h1), result(0)),
		two(alloc(8), told(h1), write(h1, 7, 1), result(0)),
		two(alloc(8), told(h1), write(h1, 6, 1), result(0)),
		two(alloc(8), told(h1), write(h1, 7, 0), result(0)),
		two(alloc(7), told(h1), write(h1, 6, 0), result(0)),
		two(alloc(8), told(h3), write(h3, 7, 0), result(0)),
	}
	// The objects of the last one, and another handle told.
	other := freed.Copy()
	must(t, other, alloc(8), told(h3))
	maps = append(maps, other)
	for i, m := range maps {
		for j, o := range maps {
			if m.Same(o) != (i == j) {
				t.Errorf("P7.3: maps %d and %d: Same %v", i, j, m.Same(o))
			}
		}
		if m.Same(nil) {
			t.Errorf("P7.3: map %d is like nil", i)
		}
	}
	// In whatever order it was made.
	if !maps[3].Same(two(alloc(8), told(h3), alloc(8), told(h1))) {
		t.Error("P7.3: made in another order: not Same")
	}
	if pinned := two(alloc(8), told(h1), pin(h1), result(0)); !pinned.Try(unpin(h1), result(0)) || !pinned.Same(maps[9]) {
		t.Error("P7.3: pinned, and unpinned: not Same")
	}
}

func TestNil(t *testing.T) {
	var m *model.Map
	for _, o := range []api.Op{{}, alloc(8), alloc(0), free(h1), read(h1, 0), write(h1, 0, 1), pin(h1), unpin(h1), {Do: 6}, {Do: -1}} {
		if r, has := m.Answer(o); r != result(api.ErrArg) || !has {
			t.Errorf("P7.3: Answer(%v) of nil: %v, %v", o, r, has)
		}
		for _, r := range []api.Result{{}, told(h1), result(api.ErrArg), result(api.ErrStale), result(api.ErrSize), result(api.ErrRoom)} {
			if m.Try(o, r) {
				t.Errorf("P7.3: Try(%v, %v) of nil: true", o, r)
			}
		}
	}
	if len(m.Live()) != 0 || len(m.Bytes(h1)) != 0 || m.Pins(h1) != 0 || m.Copy() != nil {
		t.Errorf("P7.3: of nil: %v, %v, %d, %v", m.Live(), m.Bytes(h1), m.Pins(h1), m.Copy())
	}
	if m.Same(nil) || m.Same(model.New()) || model.New().Same(m) {
		t.Error("P7.3: nil is Same")
	}
}

// TestZeroMap: a map that New did not make is an empty one, too.
func TestZeroMap(t *testing.T) {
	m := &model.Map{}
	if !m.Same(model.New()) || !m.Copy().Same(model.New()) || !model.New().Same(m) {
		t.Error("P7.3: the zero map is none that has nothing")
	}
	must(t, m, free(h1), result(api.ErrStale))
	must(t, m, alloc(2), told(h1))
	must(t, m, write(h1, 1, 3), result(0))
	must(t, m, read(h1, 1), byteOf(3))
}

// TestWhatWasWrittenIsRead has no oracle: what the map itself tells is held against what was asked.
func TestWhatWasWrittenIsRead(t *testing.T) {
	m := sample(t)
	for h, size := range map[int]int{h1: 1, h2: 256, h3: 4} {
		for off := range size {
			must(t, m, write(h, off, 255-off), result(0))
		}
	}
	for h, size := range map[int]int{h1: 1, h2: 256, h3: 4} {
		for off := range size {
			if r, _ := m.Answer(read(h, off)); r != byteOf(255-off) {
				t.Errorf("P7.4: at %d of %d: %v, not %d", off, h, r, 255-off)
			}
		}
	}
}

// TestWhatIsFreedIsStale goes through a slot's generations: each handle that was freed is stale to the end.
func TestWhatIsFreedIsStale(t *testing.T) {
	m := model.New()
	for gen := range 1001 {
		h := handleOf(5, gen)
		must(t, m, alloc(1+gen%256), told(h))
		must(t, m, write(h, 0, gen), result(0))
		must(t, m, free(h), result(0))
	}
	for gen := range 1001 {
		h := handleOf(5, gen)
		refuse(t, m, alloc(8), told(h))
		for _, o := range []api.Op{free(h), read(h, 0), write(h, 0, 0), pin(h), unpin(h)} {
			if r, _ := m.Answer(o); r != result(api.ErrStale) {
				t.Errorf("P7.4: %v of what was freed: %v", o, r)
			}
		}
	}
	if len(m.Live()) != 0 {
		t.Errorf("P7.4: all was freed: live are %v", m.Live())
	}
}
