package stack_test

import (
	"slices"
	"sync"
	"testing"

	"sidings/api"
	"sidings/cells"
	"sidings/layout"
	"sidings/stack"
)

// What a user is about.
const (
	nothing = iota
	taking
	giving
)

// user takes a slot and gives it back, so many rounds; a Pop of no slot is a round, too. It is a value: a copy goes on by itself.
type user struct {
	rounds int
	doing  int
	pop    stack.Pop
	push   stack.Push
	slot   int
}

// step does a step of what the user is about, and tells a slot that was taken by it, or -1.
func (u *user) step(m cells.Cells, l layout.Layout) (int, api.Errno) {
	if u.doing == giving {
		return -1, u.give(m)
	}
	if u.doing == nothing {
		u.doing, u.pop = taking, *stack.NewPop(l)
	}
	slot, err, end := u.pop.Step(m)
	if !end {
		return -1, api.OK
	}
	if err != api.OK {
		*u = user{rounds: u.rounds - 1}
		return -1, err
	}
	*u = user{rounds: u.rounds, doing: giving, slot: slot, push: *stack.NewPush(l, slot)}
	return slot, api.OK
}

func (u *user) give(m cells.Cells) api.Errno {
	err, end := u.push.Step(m)
	if end {
		*u = user{rounds: u.rounds - 1}
	}
	return err
}

// moment is all that there is between two steps.
type moment struct {
	words [20]int
	users [3]user
}

// taken tells whether another user has a slot.
func taken(users []user, by int, slot int) bool {
	for i, u := range users {
		if i != by && u.doing == giving && u.slot == slot {
			return true
		}
	}
	return false
}

// search goes through all moments that any order of single steps comes to.
type search struct {
	t     *testing.T
	l     layout.Layout
	slots int
	seen  map[moment]struct{}
	ends  int
}

func (s *search) from(at moment) {
	if _, before := s.seen[at]; before {
		return
	}
	s.seen[at] = struct{}{}
	busy := false
	for i, u := range at.users {
		if u.rounds == 0 {
			continue
		}
		busy = true
		s.from(s.behind(at, i))
	}
	if !busy {
		s.ends++
		checkAllFree(s.t, s.cells(at), s.l, s.slots)
	}
}

// behind is the moment behind a user's step.
func (s *search) behind(at moment, i int) moment {
	m := s.cells(at)
	slot, err := at.users[i].step(m, s.l)
	if slot >= 0 && taken(at.users[:], i, slot) {
		s.t.Fatalf("P10.4: slot %d was taken twice", slot)
	}
	if err != api.OK && (err != api.ErrSlots || s.slots >= len(at.users)) {
		s.t.Fatalf("P10.4: %d slots: %d", s.slots, err)
	}
	for w := range s.l.Words() {
		at.words[w] = m.Load(w)
	}
	return at
}

func (s *search) cells(at moment) *cells.Plain {
	m := cells.New(s.l.Words(), 8)
	for w := range s.l.Words() {
		m.Store(w, at.words[w])
	}
	return m
}

// checkAllFree has each slot be free, once.
func checkAllFree(t *testing.T, m cells.Cells, l layout.Layout, slots int) {
	t.Helper()
	free := stack.Free(m, l)
	slices.Sort(free)
	if len(free) != slots || len(slices.Compact(free)) != slots {
		t.Fatalf("P10.4: %v are free in the end, of %d slots", free, slots)
	}
}

// TestAllInterleavings goes through each order of the steps of users who are few.
func TestAllInterleavings(t *testing.T) {
	for slots := 1; slots <= 4; slots++ {
		for _, rounds := range [][3]int{{1, 1, 1}, {2, 2, 0}, {3, 2, 0}, {2, 2, 1}} {
			m, l := started(t, slots)
			at := moment{}
			for w := range l.Words() {
				at.words[w] = m.Load(w)
			}
			for i, n := range rounds {
				at.users[i].rounds = n
			}
			s := &search{t: t, l: l, slots: slots, seen: map[moment]struct{}{}}
			s.from(at)
			if s.ends == 0 {
				t.Errorf("P10.4: %v rounds of %d slots came to no end", rounds, slots)
			}
		}
	}
}

// TestManyInterleavings steps users who are many, in orders by a rule.
func TestManyInterleavings(t *testing.T) {
	for start := range 200 {
		slots := 1 + start%5
		m, l := started(t, slots)
		users := slices.Repeat([]user{{rounds: 10}}, 6)
		rule := start*7919 + 11
		for slices.ContainsFunc(users, func(u user) bool { return u.rounds > 0 }) {
			rule = (rule*1103515245 + 12345) % (1 << 31)
			i := rule >> 12 % len(users)
			if users[i].rounds == 0 {
				continue
			}
			slot, err := users[i].step(m, l)
			if slot >= 0 && taken(users, i, slot) {
				t.Fatalf("P10.4: order %d: slot %d was taken twice", start, slot)
			}
			if err != api.OK && err != api.ErrSlots {
				t.Fatalf("P10.4: order %d: %d", start, err)
			}
		}
		checkAllFree(t, m, l, slots)
	}
}

// TestGoroutines has goroutines take and give over atomic cells: each marks its slot's entry while it has it.
func TestGoroutines(t *testing.T) {
	for _, slots := range []int{1, 3, 64} {
		l := layoutOf(t, slots)
		m := cells.NewAtomic(l.Words(), 8)
		layout.Start(m, configOf(slots))
		var all sync.WaitGroup
		for number := range 8 {
			all.Add(1)
			go func() {
				defer all.Done()
				useSlots(t, m, l, number+1)
			}()
		}
		all.Wait()
		checkAllFree(t, m, l, slots)
	}
}

func useSlots(t *testing.T, m cells.Cells, l layout.Layout, mark int) {
	u := user{rounds: 300}
	for u.rounds > 0 {
		if u.doing == giving {
			m.Cas(l.Entry(u.slot), mark, 0)
		}
		slot, err := u.step(m, l)
		if err != api.OK && err != api.ErrSlots {
			t.Errorf("P10.4: %d", err)
			return
		}
		if slot >= 0 && !m.Cas(l.Entry(slot), 0, mark) {
			t.Errorf("P10.4: slot %d was taken twice", slot)
			return
		}
	}
}
