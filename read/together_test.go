package read_test

import (
	"slices"
	"testing"

	"sidings/alloc"
	"sidings/api"
	"sidings/cells"
	"sidings/layout"
	"sidings/model"
	"sidings/read"
)

// dice turns over by a rule, so that a walk is the same each time.
type dice int

func (d *dice) roll(n int) int {
	*d = (*d*1103515245 + 12345) % (1 << 31)
	return int(*d>>12) % n
}

// TestAlone makes, writes and frees objects, and holds each Read against the model.
func TestAlone(t *testing.T) {
	c := api.Config{Arena: 4096, Slots: 6, Threads: 3}
	for start := range 30 {
		d, m, objects, told := dice(start), filled(t, c), model.New(), []int{0, -1, handleOf(6, 0), handleOf(5, 1)}
		for range 300 {
			h, off := told[d.roll(len(told))], d.roll(20)-2
			switch d.roll(8) {
			case 0:
				told = append(told, makeOne(t, c, m, objects, 1+d.roll(16))...)
			case 1:
				freeOne(c, m, objects, h)
			case 2, 3:
				writeOne(c, m, objects, h, off, d.roll(256))
			}
			r := run(t, read.New(c, h, off), m)
			if want, _ := objects.Answer(api.Op{Do: api.Read, H: h, Off: off}); r != want {
				t.Fatalf("P12.2: of handle %d at %d: %v, not %v", h, off, r, want)
			}
		}
	}
}

// makeOne tells the handle of an object that was made, if there was a slot, and room.
func makeOne(t *testing.T, c api.Config, m cells.Cells, objects *model.Map, n int) []int {
	t.Helper()
	x := alloc.New(c, n)
	for {
		r, end := x.Step(m)
		if !end {
			continue
		}
		if !objects.Try(api.Op{Do: api.Alloc, N: n}, r) {
			t.Fatalf("P11.3: of %d bytes: %v", n, r)
		}
		if r.Code != api.OK {
			return nil
		}
		return []int{r.N}
	}
}

// freeOne puts the slot back by words alone.
func freeOne(c api.Config, m cells.Cells, objects *model.Map, h int) {
	if !objects.Try(api.Op{Do: api.Free, H: h}, api.Result{}) {
		return
	}
	slot, gen := h%1048576, h/1048576%1048576
	m.Store(entryAt(c, slot), freed(gen+1))
	m.Store(entryAt(c, slot)+2, m.Load(1)%1048576)
	m.Store(1, slot+1)
}

func writeOne(c api.Config, m cells.Cells, objects *model.Map, h int, off int, b int) {
	if objects.Try(api.Op{Do: api.Write, H: h, Off: off, N: b}, api.Result{}) {
		m.SetByte(m.Load(entryAt(c, h%1048576))%1048576+off, b)
	}
}

// deed is a step that another one does beside a Read; it tells what the map holds behind it, if that is anew.
type deed struct {
	do    func(m cells.Cells)
	size  int
	bytes []int
}

// story is what others do: the object of slot 1, generation 5, is moved twice, written, freed, and made anew; others come where it lay.
type story struct {
	c     api.Config
	deeds []deed
	now   deed
}

func (s *story) add(do func(m cells.Cells)) {
	s.now.do = do
	s.deeds = append(s.deeds, s.now)
}

func (s *story) word(w int) {
	s.add(func(m cells.Cells) { m.Store(entryAt(s.c, 1), w) })
}

func (s *story) setByte(i int, b int) {
	s.add(func(m cells.Cells) { m.SetByte(i, b) })
}

func (s *story) move(from int, to int) {
	s.word(wordOf(from, 5) + lock)
	for i := range 8 {
		s.add(func(m cells.Cells) { m.SetByte(to+i, m.Byte(from+i)) })
	}
	s.word(wordOf(to, 5))
	for i := range 8 {
		s.setByte(from+i, 0)
	}
}

func (s *story) write(at int, off int, b int) {
	s.word(wordOf(at, 5) + guard)
	s.now.bytes = slices.Clone(s.now.bytes)
	s.now.bytes[off] = b
	s.setByte(at+off, b)
	s.word(wordOf(at, 5))
}

func (s *story) free() {
	s.now.size = 0
	s.word(freed(6))
}

// makeAnew puts another object there, and a greater one: it is none of the handle's.
func (s *story) makeAnew(at int) {
	for i := range 16 {
		s.setByte(at+i, 0)
	}
	s.add(func(m cells.Cells) { m.Store(sizeAt(s.c, 1), 16) })
	s.word(wordOf(at, 6))
	s.setByte(at, 222)
}

// answer is what the map answers a Read at a time.
func (d deed) answer(off int) api.Result {
	if d.size == 0 {
		return failed(api.ErrStale)
	}
	if off < 0 || off >= d.size {
		return failed(api.ErrRange)
	}
	return found(d.bytes[off])
}

// told is the story, with what there is ahead of it as its first deed.
func told(c api.Config) *story {
	s := &story{c: c, now: deed{size: 7, bytes: []int{byteOf(16), byteOf(17), byteOf(18), byteOf(19), byteOf(20), byteOf(21), byteOf(22)}}}
	s.add(func(m cells.Cells) {
		m.Store(entryAt(c, 1), wordOf(16, 5))
		m.Store(sizeAt(c, 1), 7)
	})
	s.move(16, 8)
	s.write(8, 0, 201)
	s.write(8, 6, 202)
	s.write(8, 0, 203)
	s.move(8, 0)
	s.write(0, 3, 204)
	s.free()
	s.makeAnew(0)
	return s
}

// moment is how far the story and a Read are, and when that began.
type moment struct {
	deed  int
	began int
	x     read.Machine
}

// search goes through all moments that any order of single steps comes to.
type search struct {
	t     *testing.T
	s     *story
	off   int
	cells []*cells.Plain
	seen  map[moment]struct{}
	found map[api.Result]struct{}
}

func (s *search) from(at moment) {
	if _, before := s.seen[at]; before {
		return
	}
	s.seen[at] = struct{}{}
	if at.deed+1 < len(s.cells) {
		on := at
		on.deed++
		s.from(on)
	}
	if at.began < 0 {
		at.began = at.deed
	}
	r, end := at.x.Step(s.cells[at.deed])
	if !end {
		s.from(at)
		return
	}
	s.found[r] = struct{}{}
	for _, d := range s.s.deeds[at.began : at.deed+1] {
		if d.answer(s.off) == r {
			return
		}
	}
	s.t.Fatalf("P12.1: at %d, from deed %d to %d: %v, as the map answers at no time", s.off, at.began, at.deed, r)
}

// TestBesideOthers goes through each order of the steps of a Read and of what others do: the answer is always the map's, at some time while the Read is under way.
func TestBesideOthers(t *testing.T) {
	c := api.Config{Arena: 32, Slots: 2, Threads: 1}
	for _, off := range []int{-1, 0, 3, 5, 6, 7, 8} {
		s := &search{t: t, s: told(c), off: off, seen: map[moment]struct{}{}, found: map[api.Result]struct{}{}}
		m, want := filled(t, c), map[api.Result]struct{}{}
		for _, d := range s.s.deeds {
			d.do(m)
			s.cells = append(s.cells, m.Copy())
			want[d.answer(off)] = struct{}{}
		}
		s.from(moment{began: -1, x: *read.New(c, handleOf(1, 5), off)})
		if len(s.found) != len(want) {
			t.Errorf("P12.1: at %d: %v are told, not all of %v", off, s.found, want)
		}
	}
}

// TestGoroutine has Reads over atomic cells while a goroutine moves the object down: it is always the object's byte.
func TestGoroutine(t *testing.T) {
	c := api.Config{Arena: 4096, Slots: 2, Threads: 1}
	l, _ := layout.Of(c)
	m := cells.NewAtomic(l.Words(), c.Arena)
	layout.Start(m, c)
	m.Store(sizeAt(c, 1), 8)
	for i := range 8 {
		m.SetByte(4088+i, 10+i)
	}
	m.Store(entryAt(c, 1), wordOf(4088, 0))
	over := make(chan struct{})
	go func() {
		defer close(over)
		for from := 4088; from > 0; from -= 8 {
			moveDown(m, c, from)
		}
	}()
	for i := range 4000 {
		x := read.New(c, handleOf(1, 0), i%8)
		r, end := x.Step(m)
		for !end {
			r, end = x.Step(m)
		}
		if r != found(10+i%8) {
			t.Errorf("P12.1: at %d: %v", i%8, r)
			break
		}
	}
	<-over
}

// moveDown moves the object by its size, and leaves other bytes where it lay.
func moveDown(m cells.Cells, c api.Config, from int) {
	m.Store(entryAt(c, 1), wordOf(from, 0)+lock)
	for i := range 8 {
		m.SetByte(from-8+i, m.Byte(from+i))
	}
	m.Store(entryAt(c, 1), wordOf(from-8, 0))
	for i := range 8 {
		m.SetByte(from+i, 255)
	}
}
