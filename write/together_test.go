package write_test

import (
	"slices"
	"sync"
	"testing"

	"sidings/alloc"
	"sidings/api"
	"sidings/cells"
	"sidings/layout"
	"sidings/linear"
	"sidings/model"
	"sidings/read"
	"sidings/write"
)

// dice turns over by a rule, so that a walk is the same each time.
type dice int

func (d *dice) roll(n int) int {
	*d = (*d*1103515245 + 12345) % (1 << 31)
	return int(*d>>12) % n
}

// TestAlone makes and frees objects, and holds each Write, and the bytes behind it, against the model.
func TestAlone(t *testing.T) {
	c := api.Config{Arena: 4096, Slots: 6, Threads: 3}
	for start := range 30 {
		d, m, objects, told := dice(start), filled(t, c), model.New(), []int{0, -1, handleOf(6, 0), handleOf(5, 1)}
		for range 300 {
			h, off, b := told[d.roll(len(told))], d.roll(20)-2, d.roll(600)-200
			switch d.roll(6) {
			case 0:
				told = append(told, makeOne(t, c, m, objects, 1+d.roll(16))...)
			case 1:
				freeOne(c, m, objects, h)
			}
			want := m.Copy()
			r := run(t, write.New(c, h, off, b), m)
			if !objects.Try(api.Op{Do: api.Write, H: h, Off: off, N: b}, r) {
				t.Fatalf("P13.3: of handle %d at %d the model does not answer %v", h, off, r)
			}
			if r.Code == api.OK {
				want.SetByte(m.Load(entryAt(c, h%1048576))%1048576+off, b)
			}
			same(t, m, want)
			for _, h := range objects.Live() {
				at := m.Load(entryAt(c, h%1048576)) % 1048576
				for i, want := range objects.Bytes(h) {
					if m.Byte(at+i) != want {
						t.Fatalf("P13.3: byte %d of %d is %d, not %d", i, h, m.Byte(at+i), want)
					}
				}
			}
			if t.Failed() {
				t.FailNow()
			}
		}
	}
}

// makeOne tells the handle of an object that was made, if there was a slot, and room.
func makeOne(t *testing.T, c api.Config, m cells.Cells, objects *model.Map, n int) []int {
	t.Helper()
	x := alloc.New(c, n)
	for {
		r, end := x.Step(m)
		if !end {
			continue
		}
		if !objects.Try(api.Op{Do: api.Alloc, N: n}, r) {
			t.Fatalf("P11.3: of %d bytes: %v", n, r)
		}
		if r.Code != api.OK {
			return nil
		}
		return []int{r.N}
	}
}

// freeOne puts the slot back by words alone.
func freeOne(c api.Config, m cells.Cells, objects *model.Map, h int) {
	if !objects.Try(api.Op{Do: api.Free, H: h}, api.Result{}) {
		return
	}
	slot, gen := h%1048576, h/1048576%1048576
	m.Store(entryAt(c, slot), freed(gen+1))
	m.Store(entryAt(c, slot)+2, m.Load(1)%1048576)
	m.Store(1, slot+1)
}

// other is one who works on the object of slot 1 beside Writes: it slides that down, puts bytes where it lay, frees it, and makes another one there. Its first steps go again where there is a guard.
type other struct {
	step int
	word int
	b    int
}

// The other one's steps.
const (
	lockLoad = iota
	lockCas
	copyByte
	copySetByte
	copyByteAgain
	copySetByteAgain
	storeMoved
	strangeByte
	strangeByteAgain
	freeLoad
	freeCas
	clearByte
	clearByteAgain
	storeSize
	storeAnew
	otherEnded
)

func (o *other) do(m cells.Cells, c api.Config) {
	at, on := entryAt(c, 1), true
	switch o.step {
	case lockLoad, freeLoad:
		o.word = m.Load(at)
		on = guardsOf(o.word) == 0
	case lockCas:
		on = o.cas(m, at, o.word+lock)
	case copyByte:
		o.b = m.Byte(8)
	case copySetByte:
		m.SetByte(0, o.b)
	case copyByteAgain:
		o.b = m.Byte(9)
	case copySetByteAgain:
		m.SetByte(1, o.b)
	case storeMoved:
		m.Store(at, wordOf(0, 5))
	case strangeByte, strangeByteAgain:
		m.SetByte(8+o.step-strangeByte, 250)
	case freeCas:
		on = o.cas(m, at, freed(6))
	case clearByte, clearByteAgain:
		m.SetByte(16+o.step-clearByte, 0)
	case storeSize:
		m.Store(sizeAt(c, 1), 1)
	case storeAnew:
		m.Store(at, wordOf(16, 6))
	}
	if on {
		o.step++
	}
}

// cas goes a step back where it is not done, and does not go on.
func (o *other) cas(m cells.Cells, at int, word int) bool {
	if m.Cas(at, o.word, word) {
		return true
	}
	o.step--
	return false
}

const (
	users = 3
	arena = 24
)

// user is who writes b at off of the object of slot 1, of this generation.
type user struct {
	gen int
	off int
	b   int
}

// moment is all that there is between two steps of Writes, and of the other one; want is what the map holds of generations 5 and 6.
type moment struct {
	words    [11]int
	bytes    [arena]int
	machines [users]write.Machine
	ended    [users]bool
	other    other
	want     [2][2]int
}

// search goes through all moments that any order of single steps comes to.
type search struct {
	t     *testing.T
	c     api.Config
	users [users]user
	base  int // guards of those who do nothing
	seen  map[moment]struct{}
	codes map[api.Errno]int
	waits int
	ends  int
}

func (s *search) from(at moment) {
	if _, before := s.seen[at]; before {
		return
	}
	s.seen[at] = struct{}{}
	s.check(at)
	over := at.other.step == otherEnded
	if !over {
		s.from(s.behindOther(at))
	}
	for i, ended := range at.ended {
		over = over && ended
		if !ended {
			s.from(s.behind(at, i))
		}
	}
	if over {
		s.ends++
	}
}

func (s *search) cells(at moment) *cells.Plain {
	m := cells.New(len(at.words), arena)
	for i, w := range at.words {
		m.Store(i, w)
	}
	for i, b := range at.bytes {
		m.SetByte(i, b)
	}
	return m
}

// keep has a moment be as cells are.
func (at *moment) keep(m cells.Cells) {
	for i := range at.words {
		at.words[i] = m.Load(i)
	}
	for i := range at.bytes {
		at.bytes[i] = m.Byte(i)
	}
}

func (s *search) behindOther(at moment) moment {
	m := s.cells(at)
	at.other.do(m, s.c)
	at.keep(m)
	return at
}

// behind is the moment behind a Write's step, that may change its guard, and its own byte, alone.
func (s *search) behind(at moment, i int) moment {
	m, old, u := s.cells(at), at, s.users[i]
	steps := m.Steps()
	r, end := at.machines[i].Step(m)
	if m.Steps() != steps+1 {
		s.t.Fatalf("P13.1: a step calls %d times", m.Steps()-steps)
	}
	at.keep(m)
	if at.bytes != old.bytes {
		word := at.words[entryAt(s.c, 1)]
		old.bytes[word%1048576+u.off] = u.b
		if word/1048576%1048576 != u.gen || at.bytes != old.bytes || !at.machines[i].Guards() {
			s.t.Fatalf("P13.3: %+v makes %v, of the entry %d", u, at.bytes, word)
		}
		at.want[u.gen-5][u.off] = u.b
	}
	if at == old {
		s.waits++
	}
	if end {
		at.machines[i], at.ended[i] = write.Machine{}, true
		s.checkTold(old, i, r)
	}
	return at
}

// checkTold has the answer be the map's at the last step.
func (s *search) checkTold(at moment, i int, r api.Result) {
	s.t.Helper()
	s.codes[r.Code]++
	u, word, want := s.users[i], at.words[entryAt(s.c, 1)], api.OK
	switch {
	case word < wordOf(0, 0) || word/1048576%1048576 != u.gen:
		want = api.ErrStale
	case u.off < 0 || u.off >= at.words[sizeAt(s.c, 1)]:
		want = api.ErrRange
	}
	if r != failed(want) {
		s.t.Fatalf("P13.1: %+v is told %v, of the entry %d", u, r, word)
	}
}

// check has no guard be lost, or be there beside the lock, and the object have the bytes that were written.
func (s *search) check(at moment) {
	s.t.Helper()
	word, guards := at.words[entryAt(s.c, 1)], s.base
	for i := range at.machines {
		if at.machines[i].Guards() {
			guards++
		}
	}
	if guardsOf(word) != guards || guards > 0 && word/lock%2 == 1 {
		s.t.Fatalf("P13.2: %d guards, of the entry %d", guards, word)
	}
	if word < wordOf(0, 0) {
		return
	}
	for i := range at.words[sizeAt(s.c, 1)] {
		if got, want := at.bytes[word%1048576+i], at.want[word/1048576%1048576-5][i]; got != want {
			s.t.Fatalf("P13.3: byte %d of the entry %d is %d, not %d", i, word, got, want)
		}
	}
	if s.base == 0 && at.other.step > strangeByteAgain && (at.bytes[8] != 250 || at.bytes[9] != 250) {
		s.t.Fatalf("P13.3: strange bytes are %v", at.bytes)
	}
}

// start is the moment ahead of all steps.
func (s *search) start(o other) moment {
	m := filled(s.t, s.c)
	m.Store(entryAt(s.c, 1), wordOf(8, 5)+s.base*guard)
	m.Store(sizeAt(s.c, 1), 2)
	at := moment{other: o, want: [2][2]int{{byteOf(8), byteOf(9)}, {0, 0}}}
	at.keep(m)
	for i, u := range s.users {
		at.machines[i] = *write.New(s.c, handleOf(1, u.gen), u.off, u.b)
	}
	return at
}

// TestAllInterleavings goes through each order of the steps of Writes, and of one who moves, frees and makes.
func TestAllInterleavings(t *testing.T) {
	for _, c := range []struct {
		users [users]user
		codes []api.Errno
		waits bool
	}{
		{[users]user{{5, 0, 101}, {5, 1, 102}, {5, 0, 103}}, []api.Errno{api.OK, api.ErrStale}, true},
		{[users]user{{5, 0, 101}, {5, 2, 102}, {5, -1, 103}}, []api.Errno{api.OK, api.ErrStale, api.ErrRange}, true},
		{[users]user{{5, 1, 101}, {6, 0, 102}, {6, 1, 103}}, []api.Errno{api.OK, api.ErrStale, api.ErrRange}, true},
		{[users]user{{4, 0, 101}, {6, 0, 102}, {6, 0, 103}}, []api.Errno{api.OK, api.ErrStale}, false},
	} {
		s := &search{t: t, c: api.Config{Arena: arena, Slots: 2, Threads: 1}, users: c.users, seen: map[moment]struct{}{}, codes: map[api.Errno]int{}}
		s.from(s.start(other{}))
		if s.ends == 0 || (s.waits > 0) != c.waits || len(s.codes) != len(c.codes) {
			t.Errorf("P13.1: %v: %d ends, %d steps that wait, errors %v", c, s.ends, s.waits, s.codes)
		}
		for _, code := range c.codes {
			if s.codes[code] == 0 {
				t.Errorf("P13.1: %v: none is told %d", c, code)
			}
		}
	}
}

// TestAllInterleavingsOfFewGuards is the same where there are too few guards for all, and none is moved or freed.
func TestAllInterleavingsOfFewGuards(t *testing.T) {
	for _, base := range []int{12, 13, 14} {
		s := &search{t: t, c: api.Config{Arena: arena, Slots: 2, Threads: 1}, base: base, seen: map[moment]struct{}{}, codes: map[api.Errno]int{}}
		s.users = [users]user{{5, 0, 101}, {5, 1, 102}, {5, 2, 103}}
		s.from(s.start(other{step: otherEnded}))
		if s.ends == 0 || (s.waits > 0) != (base > 12) || len(s.codes) != 2 {
			t.Errorf("P13.1: %d guards ahead: %d ends, %d steps that wait, errors %v", base, s.ends, s.waits, s.codes)
		}
	}
}

// TestManyInterleavings steps more Writes of one object than it has guards, in orders by a rule.
func TestManyInterleavings(t *testing.T) {
	const many = 24
	c := api.Config{Arena: 64, Slots: 2, Threads: 4}
	k := lying{c: c, slot: 1, gen: 7, offset: 8, size: many, held: 3 * pin}
	most := 0
	for start := range 300 {
		d, m, want, machines := dice(start), k.cells(t), k.cells(t), []*write.Machine{}
		for i := range many + 2 {
			machines = append(machines, k.new(i, 200+i))
			if i < many {
				want.SetByte(8+i, 200+i)
			}
		}
		ended, refused := 0, 0
		for ended < len(machines) {
			i := d.roll(len(machines))
			r, end := machines[i].Step(m)
			guards := 0
			for _, x := range machines {
				if x.Guards() {
					guards++
				}
			}
			most = max(most, guards)
			k.is(t, m, k.word()+guards*guard)
			if !end || r.Code == api.ErrArg {
				continue
			}
			ended++
			if r.Code == api.ErrRange {
				refused++
			}
		}
		same(t, m, want)
		if refused != 2 || t.Failed() {
			t.Fatalf("P13.1: by rule %d: %d are outside", start, refused)
		}
	}
	if most != 15 {
		t.Errorf("P13.1: %d guards at most", most)
	}
}

// worker is a Write, or a Read, of a history.
type worker struct {
	op   api.Op
	step func(m cells.Cells) (api.Result, bool)
}

// TestHistories has Writes and Reads of threads, in orders by a rule, while the object is moved, freed and made anew: the map accepts what was told.
func TestHistories(t *testing.T) {
	c := api.Config{Arena: arena, Slots: 2, Threads: 4}
	for start := range 2000 {
		d, m, o, history := dice(start), filled(t, c), other{}, []api.Event{}
		m.Store(entryAt(c, 1), wordOf(8, 5))
		m.Store(sizeAt(c, 1), 2)
		m.SetByte(8, 0)
		m.SetByte(9, 0)
		h := handleOf(1, 5)
		history = append(history, api.Event{Op: api.Op{Do: api.Alloc, N: 2}}, api.Event{Back: true, Result: api.Result{N: h}})
		var now [4]*worker
		freer := api.Event{Thread: 3, Op: api.Op{Do: api.Free, H: h}}
		for range 80 {
			who := d.roll(4)
			if who == 3 {
				step := o.step
				if o.step != otherEnded {
					o.do(m, c)
				}
				if step == strangeByteAgain {
					history = append(history, freer)
				}
				if step == freeCas && o.step == clearByte {
					history = append(history, api.Event{Thread: 3, Back: true})
				}
				continue
			}
			if now[who] == nil {
				now[who] = anyWorker(&d, c, h)
				history = append(history, api.Event{Thread: who, Op: now[who].op})
			}
			if r, end := now[who].step(m); end {
				history = append(history, api.Event{Thread: who, Back: true, Result: r})
				now[who] = nil
			}
		}
		if !linear.Accepts(history) {
			t.Fatalf("P13.1: by rule %d: no order of %v", start, history)
		}
	}
}

func anyWorker(d *dice, c api.Config, h int) *worker {
	off, b := d.roll(3), 1+d.roll(255)
	if d.roll(2) == 0 {
		return &worker{op: api.Op{Do: api.Read, H: h, Off: off}, step: read.New(c, h, off).Step}
	}
	return &worker{op: api.Op{Do: api.Write, H: h, Off: off, N: b}, step: write.New(c, h, off, b).Step}
}

// TestGoroutines has goroutines write each its own byte over atomic cells, while another one moves the object down: no guard is lost, and no byte.
func TestGoroutines(t *testing.T) {
	const threads, times = 8, 3000
	c := api.Config{Arena: 4096, Slots: 2, Threads: 1}
	l, _ := layout.Of(c)
	m := cells.NewAtomic(l.Words(), c.Arena)
	layout.Start(m, c)
	m.Store(entryAt(c, 1), wordOf(4096-threads, 9))
	m.Store(sizeAt(c, 1), threads)
	var all sync.WaitGroup
	var told [threads]api.Result
	for number := range threads {
		all.Add(1)
		go func() {
			defer all.Done()
			for i := range times {
				if r := ofRace(write.New(c, handleOf(1, 9), number, i*7+number), m); r.Code != api.OK {
					told[number] = r
				}
			}
		}()
	}
	over := make(chan struct{})
	go func() {
		all.Wait()
		close(over)
	}()
	moveDown(m, c, threads, over)
	if slices.ContainsFunc(told[:], func(r api.Result) bool { return r != api.Result{} }) {
		t.Errorf("P13.3: %v", told)
	}
	word := m.Load(entryAt(c, 1))
	if word != wordOf(word%1048576, 9) {
		t.Errorf("P13.3: the entry is %d", word)
	}
	for i := range threads {
		if got, want := m.Byte(word%1048576+i), ((times-1)*7+i)%256; got != want {
			t.Errorf("P13.3: byte %d: %d, not %d", i, got, want)
		}
	}
}

// ofRace steps a machine to its end, however often others are ahead of it.
func ofRace(x *write.Machine, m cells.Cells) api.Result {
	for {
		if r, end := x.Step(m); end {
			return r
		}
	}
}

// moveDown moves the object by its size, as often as there is no guard, till all is over.
func moveDown(m cells.Cells, c api.Config, size int, over chan struct{}) {
	for {
		select {
		case <-over:
			return
		default:
		}
		word := m.Load(entryAt(c, 1))
		from := word % 1048576
		if from < size || guardsOf(word) > 0 || !m.Cas(entryAt(c, 1), word, word+lock) {
			continue
		}
		for i := range size {
			m.SetByte(from-size+i, m.Byte(from+i))
		}
		m.Store(entryAt(c, 1), wordOf(from-size, 9))
		for i := range size {
			m.SetByte(from+i, 255)
		}
	}
}
