package free_test

import (
	"slices"
	"sync"
	"testing"

	"sidings/alloc"
	"sidings/api"
	"sidings/cells"
	"sidings/free"
	"sidings/layout"
	"sidings/linear"
	"sidings/model"
	"sidings/pin"
	"sidings/read"
	"sidings/stack"
	"sidings/write"
)

// dice turns over by a rule, so that a walk is the same each time.
type dice int

func (d *dice) roll(n int) int {
	*d = (*d*1103515245 + 12345) % (1 << 31)
	return int(*d>>12) % n
}

// stepper is any machine that is answered.
type stepper interface {
	Step(m cells.Cells) (api.Result, bool)
}

// machineOf is the machine that does an op.
func machineOf(c api.Config, op api.Op) stepper {
	switch op.Do {
	case api.Alloc:
		return alloc.New(c, op.N)
	case api.Free:
		return free.New(c, op.H)
	case api.Read:
		return read.New(c, op.H, op.Off)
	case api.Write:
		return write.New(c, op.H, op.Off, op.N)
	case api.Pin:
		return pin.New(c, op.H)
	}
	return pin.NewUn(c, op.H)
}

// toEnd steps a machine to its end, however often others are ahead of it.
func toEnd(x stepper, m cells.Cells) api.Result {
	for {
		if r, end := x.Step(m); end {
			return r
		}
	}
}

// freeSlots are the slots that are free, rising.
func freeSlots(c api.Config, m cells.Cells) []int {
	l, _ := layout.Of(c)
	slots := stack.Free(m, l)
	slices.Sort(slots)
	return slots
}

// TestAlone does one op after the other, and holds each answer against the model; a slot is free, or has an object.
func TestAlone(t *testing.T) {
	c := api.Config{Arena: 4096, Slots: 4, Threads: 3}
	for start := range 30 {
		d, m, objects, told := dice(start), filled(t, c), model.New(), []int{0, -1, handleOf(4, 0), handleOf(3, 1)}
		for range 400 {
			do := []int{api.Alloc, api.Free, api.Free, api.Free, api.Pin, api.Unpin, api.Unpin, api.Read, api.Write}[d.roll(9)]
			op := api.Op{Do: do, H: told[d.roll(len(told))], N: 1 + d.roll(16)}
			if do == api.Alloc {
				op.H = 0
			}
			r := toEnd(machineOf(c, op), m)
			if !objects.Try(op, r) {
				t.Fatalf("P15.3: of %v the model does not answer %v", op, r)
			}
			if do == api.Alloc && r.Code == api.OK {
				told = append(told, r.N)
			}
			checkSlots(t, c, m, objects)
		}
	}
}

// checkSlots has each slot have the object that the model has of it, or be free.
func checkSlots(t *testing.T, c api.Config, m cells.Cells, objects *model.Map) {
	t.Helper()
	all := freeSlots(c, m)
	for _, h := range objects.Live() {
		slot, word := h%1048576, m.Load(entryAt(c, h%1048576))
		if word < wordOf(0, 0) || word/1048576%1048576 != h/1048576%1048576 || word/onePin%16 != objects.Pins(h) {
			t.Fatalf("P15.3: the entry of %d is %d", h, word)
		}
		all = append(all, slot)
	}
	slices.Sort(all)
	if !slices.Equal(all, []int{0, 1, 2, 3}) {
		t.Fatalf("P15.3: slots %v are free, or have an object", all)
	}
}

// TestOneSlotForEver makes and frees objects in one slot till that is used up: what was freed is stale ever after.
func TestOneSlotForEver(t *testing.T) {
	c := api.Config{Arena: 8, Slots: 1, Threads: 1}
	m := filled(t, c)
	frees := func(gen int, want api.Errno) {
		t.Helper()
		if r := toEnd(free.New(c, handleOf(0, gen)), m); r != failed(want) {
			t.Fatalf("P15.3: a Free of generation %d: %v, not %d", gen, r, want)
		}
	}
	for gen := range 1001 {
		m.Store(0, 0) // the room is there again, as behind a pass
		if r := toEnd(alloc.New(c, 8), m); r != (api.Result{N: handleOf(0, gen)}) {
			t.Fatalf("P15.3: of generation %d: %v", gen, r)
		}
		if gen > 0 {
			frees(0, api.ErrStale)
			frees(gen-1, api.ErrStale)
		}
		if gen < 1000 {
			frees(gen+1, api.ErrStale)
		}
		frees(gen, api.OK)
		frees(gen, api.ErrStale)
	}
	if r := toEnd(alloc.New(c, 8), m); r != failed(api.ErrSlots) {
		t.Errorf("P15.1: of a slot that is used up: %v", r)
	}
	frees(1000, api.ErrStale)
	frees(0, api.ErrStale)
}

// other is one who works on the object of slot 1 beside Frees: it pins that and unpins it, guards it and lets it go, and slides it down under the lock.
type other struct {
	step int
	word int
}

// The other one's steps.
const (
	pinLoad = iota
	pinCas
	unpinLoad
	unpinCas
	guardLoad
	guardCas
	letLoad
	letCas
	lockLoad
	lockCas
	storeMoved
	otherEnded
)

func (o *other) do(m cells.Cells, at int) {
	switch o.step {
	case pinLoad, guardLoad, lockLoad, unpinLoad, letLoad:
		o.load(m, at)
	case pinCas:
		o.cas(m, at, onePin)
	case unpinCas:
		o.cas(m, at, -onePin)
	case guardCas:
		o.cas(m, at, guard)
	case letCas:
		o.cas(m, at, -guard)
	case lockCas:
		o.cas(m, at, lock)
	case storeMoved:
		m.Store(at, m.Load(at)-lock-16)
		*o = other{step: otherEnded}
	}
}

// load goes on to the Cas, if the object is there.
func (o *other) load(m cells.Cells, at int) {
	*o = other{step: o.step + 1, word: m.Load(at)}
	if o.word < wordOf(0, 0) {
		*o = other{step: otherEnded}
	}
}

// cas goes a step back where it is not done.
func (o *other) cas(m cells.Cells, at int, by int) {
	if m.Cas(at, o.word, o.word+by) {
		*o = other{step: o.step + 1}
		return
	}
	*o = other{step: o.step - 1}
}

const users = 3

// moment is all that there is between two steps.
type moment struct {
	words    [14]int
	machines [users]free.Machine
	ended    [users]bool
	told     [users]api.Errno
	other    other
}

// search goes through all moments that any order of single steps comes to.
type search struct {
	t     *testing.T
	c     api.Config
	asked [users]int // slots
	gen   int
	seen  map[moment]struct{}
	codes map[api.Errno]int
	waits int
	ends  int
}

func (s *search) from(at moment) {
	if _, before := s.seen[at]; before {
		return
	}
	s.seen[at] = struct{}{}
	s.check(at)
	if at.other.step != otherEnded {
		on, m := at, s.cells(at)
		on.other.do(m, entryAt(s.c, 1))
		on.keep(m)
		s.from(on)
	}
	for i, ended := range at.ended {
		if !ended {
			s.from(s.behind(at, i))
		}
	}
	if at.ended == [users]bool{true, true, true} && at.other.step == otherEnded {
		s.ends++
		s.checkEnd(at)
	}
}

func (s *search) cells(at moment) *cells.Plain {
	m := cells.New(len(at.words), 8)
	for i, w := range at.words {
		m.Store(i, w)
	}
	return m
}

func (at *moment) keep(m cells.Cells) {
	for i := range at.words {
		at.words[i] = m.Load(i)
	}
}

// behind is the moment behind a machine's step.
func (s *search) behind(at moment, i int) moment {
	n, word := &noted{Cells: s.cells(at)}, at.words[entryAt(s.c, s.asked[i])]
	was := at.machines[i]
	r, end := at.machines[i].Step(n)
	at.keep(n.Cells)
	if len(n.calls) != 1 {
		s.t.Fatalf("P15.1: a step calls %v", n.calls)
	}
	if end {
		at.ended[i], at.told[i] = true, r.Code
		s.codes[r.Code]++
		s.checkTold(word, r)
		return at
	}
	if at.machines[i] == was {
		s.waits++
		if word/guard%16 == 0 && word/lock%2 == 0 {
			s.t.Fatalf("P15.1: a step waits for nothing: %d", word)
		}
	}
	return at
}

// checkTold has an error be the map's at the last step.
func (s *search) checkTold(word int, r api.Result) {
	s.t.Helper()
	live := word >= wordOf(0, 0)
	if r.N != 0 || (r.Code == api.ErrStale) != !live && r.Code != api.OK || r.Code == api.ErrPinned && word/onePin%16 == 0 {
		s.t.Fatalf("P15.1: %v is told, of the entry %d", r, word)
	}
}

// check has no slot be in two places: one that is given has no object, and is not free yet, or no more.
func (s *search) check(at moment) {
	s.t.Helper()
	var all []int
	m := s.cells(at)
	for i := range at.machines {
		if slot, is := at.machines[i].Gives(); is {
			all = append(all, slot)
		}
	}
	all = append(all, freeSlots(s.c, m)...)
	for slot := range s.c.Slots {
		if m.Load(entryAt(s.c, slot)) >= wordOf(0, 0) {
			all = append(all, slot)
		}
	}
	slices.Sort(all)
	used := 0
	if s.gen == 1000 {
		used = s.c.Slots - len(all)
	}
	if len(slices.Compact(all)) != len(all) || len(all)+used != s.c.Slots {
		s.t.Fatalf("P15.2: slots %v are given, or are free, or have an object", all)
	}
}

// checkEnd has one Free of each object be told OK, if any was, and its slot be free.
func (s *search) checkEnd(at moment) {
	s.t.Helper()
	for slot := range s.c.Slots {
		done, asked := 0, 0
		for i, code := range at.told {
			if s.asked[i] != slot {
				continue
			}
			asked++
			if code == api.OK {
				done++
			}
		}
		gone := at.words[entryAt(s.c, slot)] < wordOf(0, 0)
		if asked > 0 && (done > 1 || gone != (done == 1)) {
			s.t.Fatalf("P15.3: %d of %d Frees are told OK; the entry is %d", done, asked, at.words[entryAt(s.c, slot)])
		}
		if want := freed(min(s.gen+1, 1000)); asked > 0 && gone && at.words[entryAt(s.c, slot)] != want {
			s.t.Fatalf("P15.1: the entry is %d, not %d", at.words[entryAt(s.c, slot)], want)
		}
	}
}

// TestAllInterleavings goes through each order of the steps of Frees, of one object, and of two, and of one who pins, guards and moves.
func TestAllInterleavings(t *testing.T) {
	for _, c := range []struct {
		asked [users]int
		gen   int
		other int
		codes []api.Errno
	}{
		{[users]int{1, 1, 1}, 5, pinLoad, []api.Errno{api.OK, api.ErrStale, api.ErrPinned}},
		{[users]int{1, 1, 2}, 5, pinLoad, []api.Errno{api.OK, api.ErrStale, api.ErrPinned}},
		{[users]int{1, 1, 2}, 1000, guardLoad, []api.Errno{api.OK, api.ErrStale}},
		{[users]int{1, 2, 0}, 5, guardLoad, []api.Errno{api.OK}},
		{[users]int{1, 2, 2}, 999, otherEnded, []api.Errno{api.OK, api.ErrStale}},
	} {
		k := api.Config{Arena: 8, Slots: 3, Threads: 1}
		s := &search{t: t, c: k, asked: c.asked, gen: c.gen, seen: map[moment]struct{}{}, codes: map[api.Errno]int{}}
		at, m := moment{other: other{step: c.other}}, filled(t, k)
		m.Store(stackAt, 0)
		for slot := range 3 {
			m.Store(entryAt(k, slot), wordOf(16, c.gen))
			m.Store(linkAt(k, slot), 0)
		}
		at.keep(m)
		for i, slot := range c.asked {
			at.machines[i] = *free.New(k, handleOf(slot, c.gen))
		}
		s.from(at)
		if s.ends == 0 || (s.waits > 0) != (c.other != otherEnded) || len(s.codes) != len(c.codes) {
			t.Errorf("P15.1: %v: %d ends, %d steps wait, errors %v", c, s.ends, s.waits, s.codes)
		}
		for _, code := range c.codes {
			if s.codes[code] == 0 {
				t.Errorf("P15.1: %v: none is told %d", c, code)
			}
		}
	}
}

// TestManyInterleavings has two Frees of each of many objects, in orders by a rule: one of each two is told OK, and all slots are free then.
func TestManyInterleavings(t *testing.T) {
	c := api.Config{Arena: 64, Slots: 6, Threads: 4}
	for start := range 500 {
		d, m, machines, slots, done := dice(start), filled(t, c), []*free.Machine{}, []int{}, [6]int{}
		for slot := range 6 {
			m.Store(entryAt(c, slot), wordOf(8*slot, slot*99))
			machines = append(machines, free.New(c, handleOf(slot, slot*99)), free.New(c, handleOf(slot, slot*99)))
			slots = append(slots, slot, slot)
		}
		m.Store(stackAt, headOf(0, mostTag-start%9))
		for len(machines) > 0 {
			i := d.roll(len(machines))
			r, end := machines[i].Step(m)
			if !end {
				continue
			}
			if r.Code == api.OK {
				done[slots[i]]++
			} else if r != failed(api.ErrStale) {
				t.Fatalf("P15.1: by rule %d: %v", start, r)
			}
			machines, slots = slices.Delete(machines, i, i+1), slices.Delete(slots, i, i+1)
		}
		if done != [6]int{1, 1, 1, 1, 1, 1} || !slices.Equal(freeSlots(c, m), []int{0, 1, 2, 3, 4, 5}) {
			t.Fatalf("P15.3: by rule %d: %v are told OK, %v are free", start, done, freeSlots(c, m))
		}
	}
}

// worker is an op that is under way.
type worker struct {
	op api.Op
	x  stepper
}

// TestHistories has threads do ops of all kinds in few slots, in orders by a rule: the map accepts what was told.
func TestHistories(t *testing.T) {
	c := api.Config{Arena: 256, Slots: 2, Threads: 4}
	frees := map[api.Errno]int{}
	for start := range 1500 {
		d, m, history := dice(start), filled(t, c), []api.Event{}
		told := []int{handleOf(0, 0), handleOf(1, 0)}
		var now [4]*worker
		for range 150 {
			who := d.roll(4)
			if now[who] == nil {
				op := anyOp(&d, told)
				now[who] = &worker{op: op, x: machineOf(c, op)}
				history = append(history, api.Event{Thread: who, Op: op})
			}
			r, end := now[who].x.Step(m)
			if !end {
				continue
			}
			history = append(history, api.Event{Thread: who, Back: true, Result: r})
			switch {
			case now[who].op.Do == api.Free:
				frees[r.Code]++
			case now[who].op.Do == api.Alloc && r.Code == api.OK:
				told = append(told, r.N)
			}
			now[who] = nil
		}
		if !linear.Accepts(history) {
			t.Fatalf("P15.3: by rule %d: no order of %v", start, history)
		}
	}
	if len(frees) != 3 || frees[api.OK] == 0 || frees[api.ErrStale] == 0 || frees[api.ErrPinned] == 0 {
		t.Errorf("P15.3: Frees are told %v", frees)
	}
}

func anyOp(d *dice, told []int) api.Op {
	h := told[len(told)-1-d.roll(min(len(told), 3))]
	switch do := []int{api.Alloc, api.Free, api.Free, api.Read, api.Write, api.Pin, api.Unpin, api.Unpin}[d.roll(8)]; do {
	case api.Alloc:
		return api.Op{Do: do, N: 1 + d.roll(3)}
	case api.Read:
		return api.Op{Do: do, H: h, Off: d.roll(3)}
	case api.Write:
		return api.Op{Do: do, H: h, Off: d.roll(3), N: 1 + d.roll(255)}
	default:
		return api.Op{Do: do, H: h}
	}
}

// TestGoroutines has goroutines all free the same objects over atomic cells, and make others in slots that are free again: each object is freed once.
func TestGoroutines(t *testing.T) {
	const threads, rounds = 4, 50
	c := api.Config{Arena: 4096, Slots: 8, Threads: 4}
	l, _ := layout.Of(c)
	m := cells.NewAtomic(l.Words(), c.Arena)
	layout.Start(m, c)
	for round := range rounds {
		m.Store(0, 0)
		var handles []int
		for range c.Slots {
			r := toEnd(alloc.New(c, 3), m)
			if r.Code != api.OK {
				t.Fatalf("P15.3: round %d: %v", round, r)
			}
			handles = append(handles, r.N)
		}
		var all sync.WaitGroup
		var done [threads][8]int
		var made [threads]int
		for number := range threads {
			all.Add(1)
			go func() {
				defer all.Done()
				for i, h := range handles {
					switch toEnd(free.New(c, h), m).Code {
					case api.OK:
						done[number][i]++
					case api.ErrStale:
					default:
						done[number][i] += 100
					}
				}
				if r := toEnd(alloc.New(c, 1), m); r.Code == api.OK && !slices.Contains(handles, r.N) && toEnd(free.New(c, r.N), m).Code == api.OK {
					made[number]++
				}
			}()
		}
		all.Wait()
		for i := range handles {
			if sum := done[0][i] + done[1][i] + done[2][i] + done[3][i]; sum != 1 {
				t.Fatalf("P15.3: round %d: an object is freed %d times", round, sum)
			}
		}
		if made != [threads]int{1, 1, 1, 1} || !slices.Equal(freeSlots(c, m), []int{0, 1, 2, 3, 4, 5, 6, 7}) {
			t.Fatalf("P15.3: round %d: %v were made and freed; %v are free", round, made, freeSlots(c, m))
		}
	}
}
