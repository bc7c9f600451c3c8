package alloc_test

import (
	"slices"
	"sync"
	"testing"

	"sidings/alloc"
	"sidings/api"
	"sidings/cells"
	"sidings/layout"
	"sidings/model"
	"sidings/stack"
)

// giveBack frees a slot's object, alone: its generation goes up, and the slot may be taken again.
func giveBack(t *testing.T, m cells.Cells, c api.Config, slot int, gen int) {
	t.Helper()
	l, _ := layout.Of(c)
	m.Store(entryAt(c, slot), wordOf(0, gen+1, 0))
	p := stack.NewPush(l, slot)
	for range 3 {
		p.Step(m)
	}
}

// TestAlone holds objects that are made one after the other against the model, and room and slots against counts.
func TestAlone(t *testing.T) {
	for _, c := range []api.Config{{Arena: 8, Slots: 1, Threads: 1}, {Arena: 64, Slots: 3, Threads: 2}, {Arena: 1024, Slots: 64, Threads: 4}, {Arena: 4096, Slots: 64, Threads: 1}} {
		for rule := range 20 {
			alone(t, c, rule)
		}
	}
}

func alone(t *testing.T, c api.Config, rule int) {
	t.Helper()
	m, objects, frontier := started(t, c), model.New(), 0
	free, gens, taken := c.Slots, map[int]int{}, []int{}
	for i := range 150 {
		rule = (rule*1103515245 + 12345) % (1 << 31)
		n := []int{1, 8, 9, 16, 3, 100, 256, 255, 0, 257, -1, 8, 24}[rule>>12%13]
		r := run(t, alloc.New(c, n), m)
		if !objects.Try(api.Op{Do: api.Alloc, N: n}, r) {
			t.Fatalf("P11.3: of %d bytes the model does not answer %v", n, r)
		}
		want := api.OK
		switch {
		case n < 1 || n > 256:
			want = api.ErrSize
		case free == 0:
			want = api.ErrSlots
		case frontier+rounded(n) > c.Arena:
			want = api.ErrRoom
		}
		if r.Code != want {
			t.Fatalf("P11.3: of %d bytes, behind %d, of %d free slots: %v, not %d", n, frontier, free, r, want)
		}
		if want == api.OK {
			slot := r.N % 1048576
			if r.N != handleOf(slot, gens[slot]) || m.Load(entryAt(c, slot)) != wordOf(frontier, gens[slot], 1) {
				t.Fatalf("P11.3: handle %d, entry %d", r.N, m.Load(entryAt(c, slot)))
			}
			frontier, free, taken = frontier+rounded(n), free-1, append(taken, slot)
		}
		if i%4 == 3 && len(taken) > 0 {
			giveBack(t, m, c, taken[0], gens[taken[0]])
			gens[taken[0]]++
			free, taken = free+1, taken[1:]
		}
		if m.Load(pendingAt) != 0 || m.Load(frontierAt) != frontier {
			t.Fatalf("P11.3: pending %d, the frontier %d, not %d", m.Load(pendingAt), m.Load(frontierAt), frontier)
		}
	}
}

const users = 2

// moment is all that there is between two steps of machines that make objects at a time.
type moment struct {
	words    [20]int
	bytes    [24]int
	machines [users]alloc.Machine
	ended    [users]bool
	told     [users]api.Result
}

// search goes through all moments that any order of single steps comes to.
type search struct {
	t     *testing.T
	c     api.Config
	sizes [users]int
	seen  map[moment]struct{}
	ends  int
	codes map[api.Errno]struct{}
}

func (s *search) from(at moment) {
	if _, before := s.seen[at]; before {
		return
	}
	s.seen[at] = struct{}{}
	s.checkApart(at)
	if at.ended == [users]bool{true, true} {
		s.ends++
		s.checkEnd(at)
		return
	}
	for i, over := range at.ended {
		if !over {
			s.from(s.behind(at, i))
		}
	}
}

func (s *search) cells(at moment) *cells.Plain {
	m := cells.New(len(at.words), s.c.Arena)
	for i, w := range at.words {
		m.Store(i, w)
	}
	for i := range s.c.Arena {
		m.SetByte(i, at.bytes[i])
	}
	return m
}

// behind is the moment behind a machine's step.
func (s *search) behind(at moment, i int) moment {
	m := s.cells(at)
	before := m.Steps()
	at.told[i], at.ended[i] = at.machines[i].Step(m)
	if m.Steps() != before+1 {
		s.t.Fatalf("P11.1: a step calls %d times", m.Steps()-before)
	}
	for w := range at.words {
		at.words[w] = m.Load(w)
	}
	for b := range s.c.Arena {
		at.bytes[b] = m.Byte(b)
	}
	return at
}

// checkApart has no byte be in two ranges, of objects and of what is held, and none lie behind the frontier.
func (s *search) checkApart(at moment) {
	s.t.Helper()
	owners := [24]int{}
	take := func(from int, size int) {
		for i := from; i < from+size; i++ {
			if i >= at.words[frontierAt] || owners[i] > 0 {
				s.t.Fatalf("P11.2: byte %d has two owners, or lies behind the frontier %d", i, at.words[frontierAt])
			}
			owners[i]++
		}
	}
	for i := range at.machines {
		if from, size, holds := at.machines[i].Holds(); holds {
			if size != rounded(s.sizes[i]) {
				s.t.Fatalf("P11.2: %d bytes are held, not %d", size, rounded(s.sizes[i]))
			}
			take(from, size)
		}
	}
	for slot := range s.c.Slots {
		if word := at.words[entryAt(s.c, slot)]; word >= wordOf(0, 0, 1) {
			take(word%1048576, rounded(at.words[sizeAt(s.c, slot)]))
		}
	}
}

// checkEnd has each object that was told be there, with bytes of 0, and each other slot be free again.
func (s *search) checkEnd(at moment) {
	s.t.Helper()
	l, _ := layout.Of(s.c)
	m, made := s.cells(at), []int{}
	for i, r := range at.told {
		s.codes[r.Code] = struct{}{}
		if r.Code != api.OK {
			if r.Code != api.ErrRoom && r.Code != api.ErrSlots || r.N != 0 {
				s.t.Fatalf("P11.3: %v is told", r)
			}
			continue
		}
		slot := r.N % 1048576
		made = append(made, slot)
		if r.N != handleOf(slot, 0) || m.Load(sizeAt(s.c, slot)) != s.sizes[i] {
			s.t.Fatalf("P11.1: of %d bytes: %v, and the size %d", s.sizes[i], r, m.Load(sizeAt(s.c, slot)))
		}
		for b := range rounded(s.sizes[i]) {
			if m.Byte(m.Load(entryAt(s.c, slot))%1048576+b) != 0 {
				s.t.Fatalf("P11.1: a byte of %v is not 0", r)
			}
		}
	}
	all := append(made, stack.Free(m, l)...)
	slices.Sort(all)
	if len(all) != s.c.Slots || len(slices.Compact(all)) != s.c.Slots {
		s.t.Fatalf("P11.3: slots %v were made, or are free", all)
	}
	if m.Load(pendingAt) != 0 {
		s.t.Fatalf("P11.1: %d are pending in the end", m.Load(pendingAt))
	}
}

// TestAllInterleavings goes through each order of the steps of machines that are few; ends tells which errors there are.
func TestAllInterleavings(t *testing.T) {
	for _, c := range []struct {
		arena int
		slots int
		sizes [users]int
		codes []api.Errno
	}{
		{24, 3, [users]int{1, 16}, []api.Errno{api.OK}},
		{16, 2, [users]int{8, 3}, []api.Errno{api.OK}},
		{8, 2, [users]int{8, 3}, []api.Errno{api.OK, api.ErrRoom}},
		{24, 3, [users]int{15, 9}, []api.Errno{api.OK, api.ErrRoom}},
		{24, 1, [users]int{16, 3}, []api.Errno{api.OK, api.ErrSlots}},
		{8, 1, [users]int{8, 8}, []api.Errno{api.OK, api.ErrSlots}},
		{8, 1, [users]int{8, 9}, []api.Errno{api.OK, api.ErrSlots, api.ErrRoom}},
	} {
		k := api.Config{Arena: c.arena, Slots: c.slots, Threads: 1}
		s := &search{t: t, c: k, sizes: c.sizes, seen: map[moment]struct{}{}, codes: map[api.Errno]struct{}{}}
		m, at := started(t, k), moment{}
		for i := range at.words {
			at.words[i] = m.Load(i)
		}
		for i := range c.arena {
			at.bytes[i] = m.Byte(i)
		}
		for i, n := range c.sizes {
			at.machines[i] = *alloc.New(k, n)
		}
		s.from(at)
		if s.ends == 0 || len(s.codes) != len(c.codes) {
			t.Errorf("P11.3: %v: %d ends, errors %v", c, s.ends, s.codes)
		}
		for _, code := range c.codes {
			if _, was := s.codes[code]; !was {
				t.Errorf("P11.3: %v: no end tells %d", c, code)
			}
		}
	}
}

// TestManyInterleavings steps machines that are many, in orders by a rule.
func TestManyInterleavings(t *testing.T) {
	c := api.Config{Arena: 64, Slots: 5, Threads: 4}
	l, _ := layout.Of(c)
	for rule := range 500 {
		m, machines := started(t, c), []*alloc.Machine{}
		for i := range 8 {
			machines = append(machines, alloc.New(c, 1+i*3))
		}
		var told []int
		for len(machines) > 0 {
			rule = (rule*1103515245 + 12345) % (1 << 31)
			i := rule >> 12 % len(machines)
			r, end := machines[i].Step(m)
			if !end {
				continue
			}
			machines = slices.Delete(machines, i, i+1)
			if r.Code == api.OK {
				told = append(told, r.N%1048576)
			}
		}
		all := append(told, stack.Free(m, l)...)
		slices.Sort(all)
		if len(told) == 0 || !slices.Equal(all, []int{0, 1, 2, 3, 4}) || m.Load(pendingAt) != 0 {
			t.Fatalf("P11.3: %d were made; these were made, or are free: %v; pending %d", len(told), all, m.Load(pendingAt))
		}
	}
}

// TestGoroutines has goroutines make objects over atomic cells, in more slots and more room than they take.
func TestGoroutines(t *testing.T) {
	c := api.Config{Arena: 4096, Slots: 64, Threads: 4}
	l, _ := layout.Of(c)
	m := cells.NewAtomic(l.Words(), c.Arena)
	layout.Start(m, c)
	for i := range c.Arena {
		m.SetByte(i, 255)
	}
	const each, threads = 12, 4
	var told [threads][each]api.Result
	var all sync.WaitGroup
	for number := range threads {
		all.Add(1)
		go func() {
			defer all.Done()
			for i := range each {
				told[number][i] = ofRace(m, c, 1+number*17+i)
			}
		}()
	}
	all.Wait()
	owners, top := [4096]int{}, 0
	for number, results := range told {
		for i, r := range results {
			slot, n := r.N%1048576, 1+number*17+i
			if r != made(handleOf(slot, 0)) || m.Load(sizeAt(c, slot)) != n {
				t.Fatalf("P11.3: %v", r)
			}
			from := m.Load(entryAt(c, slot)) % 1048576
			for b := from; b < from+rounded(n); b++ {
				if owners[b]++; owners[b] > 1 || m.Byte(b) != 0 {
					t.Fatalf("P11.3: byte %d is %d, in %d objects", b, m.Byte(b), owners[b])
				}
			}
			top += rounded(n)
		}
	}
	if m.Load(frontierAt) != top || m.Load(pendingAt) != 0 || len(stack.Free(m, l)) != 64-each*threads {
		t.Errorf("P11.3: the frontier %d, not %d; pending %d; free %v", m.Load(frontierAt), top, m.Load(pendingAt), stack.Free(m, l))
	}
}

// ofRace steps a machine to its end, however often others are ahead of it.
func ofRace(m cells.Cells, c api.Config, n int) api.Result {
	x := alloc.New(c, n)
	for {
		if r, end := x.Step(m); end {
			return r
		}
	}
}
