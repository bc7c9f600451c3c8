package pin_test

import (
	"slices"
	"strings"
	"sync"
	"testing"

	"sidings/alloc"
	"sidings/api"
	"sidings/cells"
	"sidings/layout"
	"sidings/model"
	"sidings/pin"
)

// dice turns over by a rule, so that a walk is the same each time.
type dice int

func (d *dice) roll(n int) int {
	*d = (*d*1103515245 + 12345) % (1 << 31)
	return int(*d>>12) % n
}

// TestAlone makes and frees objects, and holds each Pin and Unpin, and the pins behind it, against the model.
func TestAlone(t *testing.T) {
	c := api.Config{Arena: 4096, Slots: 4, Threads: 3}
	for start := range 30 {
		d, m, objects, told := dice(start), filled(t, c), model.New(), []int{0, -1, handleOf(4, 0), handleOf(3, 1)}
		for range 400 {
			h := told[d.roll(len(told))]
			switch d.roll(10) {
			case 0:
				told = append(told, makeOne(t, c, m, objects, 1+d.roll(16))...)
			case 1:
				freeOne(c, m, objects, h)
			}
			op, x, by := api.Op{Do: api.Pin, H: h}, pin.New(c, h), onePin
			if d.roll(9) < 3 {
				op, x, by = api.Op{Do: api.Unpin, H: h}, pin.NewUn(c, h), -onePin
			}
			want := m.Copy()
			r := run(t, x, m)
			if !objects.Try(op, r) {
				t.Fatalf("P14.2: of %v the model does not answer %v", op, r)
			}
			if r.Code == api.OK {
				at := entryAt(c, h%1048576)
				want.Store(at, want.Load(at)+by)
			}
			same(t, m, want)
			for _, h := range objects.Live() {
				if got := pinsOf(m.Load(entryAt(c, h%1048576))); got != objects.Pins(h) {
					t.Fatalf("P14.2: %d has %d pins, not %d", h, got, objects.Pins(h))
				}
			}
			if t.Failed() {
				t.FailNow()
			}
		}
	}
}

// makeOne tells the handle of an object that was made, if there was a slot, and room.
func makeOne(t *testing.T, c api.Config, m cells.Cells, objects *model.Map, n int) []int {
	t.Helper()
	x := alloc.New(c, n)
	for {
		r, end := x.Step(m)
		if !end {
			continue
		}
		if !objects.Try(api.Op{Do: api.Alloc, N: n}, r) {
			t.Fatalf("P11.3: of %d bytes: %v", n, r)
		}
		if r.Code != api.OK {
			return nil
		}
		return []int{r.N}
	}
}

// freeOne puts the slot back by words alone.
func freeOne(c api.Config, m cells.Cells, objects *model.Map, h int) {
	if !objects.Try(api.Op{Do: api.Free, H: h}, api.Result{}) {
		return
	}
	slot, gen := h%1048576, h/1048576%1048576
	m.Store(entryAt(c, slot), freed(gen+1))
	m.Store(entryAt(c, slot)+2, m.Load(1)%1048576)
	m.Store(1, slot+1)
}

// other is one who works on the object beside Pins and Unpins: it guards that and lets it go, slides it down under the lock, frees it, and makes another one in its slot. It waits for pins.
type other struct {
	step int
	word int
}

// The other one's steps.
const (
	guardLoad = iota
	guardCas
	letLoad
	letCas
	lockLoad
	lockCas
	storeMoved
	freeLoad
	freeCas
	storeAnew
	otherEnded
)

func (o *other) do(m cells.Cells, at int) {
	on := true
	switch o.step {
	case guardLoad, letLoad:
		o.word = m.Load(at)
	case guardCas:
		on = o.cas(m, at, o.word+guard)
	case letCas:
		on = o.cas(m, at, o.word-guard)
	case lockLoad, freeLoad:
		o.word = m.Load(at)
		on = pinsOf(o.word) == 0
	case lockCas:
		on = o.cas(m, at, o.word+lock)
	case storeMoved:
		m.Store(at, wordOf(0, 5))
	case freeCas:
		on = o.cas(m, at, freed(6))
	case storeAnew:
		m.Store(at, wordOf(24, 6))
	}
	if on {
		o.step++
	}
}

// cas goes a step back where it is not done, and does not go on.
func (o *other) cas(m cells.Cells, at int, word int) bool {
	if m.Cas(at, o.word, word) {
		return true
	}
	o.step--
	return false
}

const users = 4

// user is who pins, or unpins, the object of slot 1 of this generation.
type user struct {
	kind kind
	gen  int
}

// state is all that there is between two steps, of machines by what they are at: the word that they are to turn, if they are.
type state struct {
	word  int
	turns [users]bool
	saw   [users]int
	ended [users]bool
	other other
	want  [2]int // the map's pins, of generations 5 and 6
}

// moment has the machines, too, which are not to be held against each other.
type moment struct {
	state
	machines [users]pin.Machine
}

// search goes through all moments that any order of single steps comes to.
type search struct {
	t     *testing.T
	c     api.Config
	users [users]user
	seen  map[state]struct{}
	codes map[api.Errno]int
	again int
	waits int
}

func (s *search) from(at moment) {
	if _, before := s.seen[at.state]; before {
		return
	}
	s.seen[at.state] = struct{}{}
	s.check(at)
	if at.other.step != otherEnded {
		on := at
		m := s.cells(on)
		on.other.do(m, entryAt(s.c, 1))
		on.word = m.Load(entryAt(s.c, 1))
		s.from(on)
	}
	for i, ended := range at.ended {
		if !ended {
			s.from(s.behind(at, i))
		}
	}
}

func (s *search) cells(at moment) *cells.Plain {
	m := filled(s.t, s.c)
	m.Store(entryAt(s.c, 1), at.word)
	return m
}

// behind is the moment behind a machine's step.
func (s *search) behind(at moment, i int) moment {
	n, u, ahead := &noted{Cells: s.cells(at)}, s.users[i], at
	r, end := at.machines[i].Step(n)
	at.word = n.Cells.Load(entryAt(s.c, 1))
	want, turning := "load ", at.turns[i]
	if turning {
		want = "cas "
	}
	if len(n.calls) != 1 || !strings.HasPrefix(n.calls[0], want) {
		s.t.Fatalf("P14.1: a step calls %v", n.calls)
	}
	done := turning && at.saw[i] == ahead.word
	if done != (at.word != ahead.word) || done && (at.word != ahead.word+u.kind.by*onePin || !end) {
		s.t.Fatalf("P14.1: a step (%v) makes %d of the entry %d", n.calls, at.word, ahead.word)
	}
	if end {
		at.ended[i], at.turns[i], at.saw[i] = true, false, 0
		s.checkTold(ahead, i, r)
		if r.Code == api.OK {
			at.want[u.gen-5] += u.kind.by
		}
		return at
	}
	waits := ahead.word/lock%2 == 1
	switch {
	case turning:
		s.again++
		at.turns[i], at.saw[i] = false, 0
	case waits:
		s.waits++
	default:
		at.turns[i], at.saw[i] = true, ahead.word
	}
	return at
}

// checkTold has the answer be the map's at the last step.
func (s *search) checkTold(at moment, i int, r api.Result) {
	s.t.Helper()
	s.codes[r.Code]++
	u, want := s.users[i], api.OK
	switch {
	case at.word < wordOf(0, 0) || at.word/1048576%1048576 != u.gen:
		want = api.ErrStale
	case at.want[u.gen-5] == u.kind.end:
		want = u.kind.err
	}
	if r != failed(want) {
		s.t.Fatalf("P14.1: by %d, of generation %d: %v is told, of the entry %d", u.kind.by, u.gen, r, at.word)
	}
}

// check has no pin be lost, and what is pinned be neither locked nor freed nor another one's.
func (s *search) check(at moment) {
	s.t.Helper()
	for i, want := range at.want {
		if want < 0 || want > 7 {
			s.t.Fatalf("P14.2: %d pins", want)
		}
		if at.word >= wordOf(0, 0) && at.word/1048576%1048576 == 5+i {
			if pinsOf(at.word) != want || want > 0 && at.word/lock%2 == 1 {
				s.t.Fatalf("P14.2: %d pins, of the entry %d", want, at.word)
			}
		} else if want > 0 {
			s.t.Fatalf("P14.2: %d pins of generation %d, and the entry is %d", want, 5+i, at.word)
		}
	}
}

// TestAllInterleavings goes through each order of the steps of Pins and Unpins, and of one who guards, moves, frees and makes.
func TestAllInterleavings(t *testing.T) {
	p, u := pins(), unpins()
	for _, c := range []struct {
		pins  int
		users [users]user
		codes []api.Errno
		waits bool
	}{
		{0, [users]user{{p, 5}, {p, 5}, {u, 5}, {u, 5}}, []api.Errno{api.OK, api.ErrStale, api.ErrNotPinned}, true},
		{0, [users]user{{p, 5}, {u, 5}, {p, 6}, {u, 6}}, []api.Errno{api.OK, api.ErrStale, api.ErrNotPinned}, true},
		{2, [users]user{{u, 5}, {u, 5}, {u, 5}, {p, 6}}, []api.Errno{api.OK, api.ErrStale, api.ErrNotPinned}, false},
		{6, [users]user{{p, 5}, {p, 5}, {p, 5}, {u, 5}}, []api.Errno{api.OK, api.ErrPinOver}, false},
		{7, [users]user{{u, 5}, {p, 5}, {u, 5}, {p, 5}}, []api.Errno{api.OK, api.ErrPinOver}, false},
		{1, [users]user{{u, 5}, {p, 5}, {u, 5}, {p, 6}}, []api.Errno{api.OK, api.ErrStale, api.ErrNotPinned}, true},
	} {
		s := &search{t: t, c: api.Config{Arena: 32, Slots: 2, Threads: 1}, users: c.users, seen: map[state]struct{}{}, codes: map[api.Errno]int{}}
		at := moment{state: state{word: wordOf(16, 5) + c.pins*onePin, want: [2]int{c.pins, 0}}}
		for i, u := range c.users {
			at.machines[i] = *u.kind.new(s.c, handleOf(1, u.gen))
		}
		s.from(at)
		if s.again == 0 || (s.waits > 0) != c.waits || len(s.codes) != len(c.codes) {
			t.Errorf("P14.1: %d pins: %d come again, %d steps wait, errors %v", c.pins, s.again, s.waits, s.codes)
		}
		for _, code := range c.codes {
			if s.codes[code] == 0 {
				t.Errorf("P14.1: %d pins: none is told %d", c.pins, code)
			}
		}
	}
}

// TestManyInterleavings steps many machines of one object, in orders by a rule; no count is lost.
func TestManyInterleavings(t *testing.T) {
	c := api.Config{Arena: 64, Slots: 2, Threads: 4}
	codes := map[api.Errno]int{}
	for start := range 500 {
		k := lying{c: c, slot: 1, gen: 7, offset: 8, pins: start % 8, guards: start % 16}
		d, m, machines, by, count := dice(start), k.cells(t), []*pin.Machine{}, []int{}, k.pins
		for i := range 30 {
			who := kinds()[i%2]
			machines, by = append(machines, k.new(who)), append(by, who.by)
		}
		for len(machines) > 0 {
			i := d.roll(len(machines))
			r, end := machines[i].Step(m)
			if !end {
				continue
			}
			codes[r.Code]++
			if r.Code == api.OK {
				count += by[i]
			}
			machines, by = slices.Delete(machines, i, i+1), slices.Delete(by, i, i+1)
		}
		want := k.cells(t)
		k.pins = count
		k.set(want, k.word())
		same(t, m, want)
		if t.Failed() {
			t.Fatalf("P14.1: by rule %d", start)
		}
	}
	if len(codes) != 3 || codes[api.ErrPinOver] == 0 || codes[api.ErrNotPinned] == 0 {
		t.Errorf("P14.1: errors %v", codes)
	}
}

// TestGoroutines has more goroutines than there may be pins pin the object over atomic cells, and unpin it, while another one moves that down: what is pinned lies where it lies.
func TestGoroutines(t *testing.T) {
	const threads, times = 9, 2000
	c := api.Config{Arena: 4096, Slots: 2, Threads: 1}
	l, _ := layout.Of(c)
	m := cells.NewAtomic(l.Words(), c.Arena)
	layout.Start(m, c)
	m.Store(entryAt(c, 1), wordOf(4088, 9))
	var all sync.WaitGroup
	var faults [threads]int
	for number := range threads {
		all.Add(1)
		go func() {
			defer all.Done()
			for range times {
				faults[number] += pinAndUnpin(m, c)
			}
		}()
	}
	over := make(chan struct{})
	go func() {
		all.Wait()
		close(over)
	}()
	moveDown(m, c, over)
	if faults != [threads]int{} {
		t.Errorf("P14.2: %v", faults)
	}
	if word := m.Load(entryAt(c, 1)); word != wordOf(word%1048576, 9) {
		t.Errorf("P14.2: the entry is %d", word)
	}
}

// pinAndUnpin tells how many faults there were.
func pinAndUnpin(m cells.Cells, c api.Config) int {
	r := ofRace(pin.New(c, handleOf(1, 9)), m)
	if r == failed(api.ErrPinOver) {
		return 0
	}
	faults := 0
	if r != (api.Result{}) {
		faults++
	}
	lay := m.Load(entryAt(c, 1))
	for range 5 {
		word := m.Load(entryAt(c, 1))
		if word%1048576 != lay%1048576 || pinsOf(word) == 0 || word/lock%2 == 1 {
			faults++
		}
	}
	if r := ofRace(pin.NewUn(c, handleOf(1, 9)), m); r != (api.Result{}) {
		faults++
	}
	return faults
}

// ofRace steps a machine to its end, however often others are ahead of it.
func ofRace(x *pin.Machine, m cells.Cells) api.Result {
	for {
		if r, end := x.Step(m); end {
			return r
		}
	}
}

// moveDown moves the object by steps of 8, as often as it has no pin, till all is over.
func moveDown(m cells.Cells, c api.Config, over chan struct{}) {
	for {
		select {
		case <-over:
			return
		default:
		}
		word := m.Load(entryAt(c, 1))
		from := word % 1048576
		if from > 0 && pinsOf(word) == 0 && m.Cas(entryAt(c, 1), word, word+lock) {
			m.Store(entryAt(c, 1), wordOf(from-8, 9))
		}
	}
}
