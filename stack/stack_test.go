package stack_test

import (
	"math"
	"slices"
	"strconv"
	"strings"
	"testing"

	"sidings/api"
	"sidings/cells"
	"sidings/layout"
	"sidings/stack"
)

// noHeads are words of no head.
func noHeads() []int {
	return []int{-1, math.MinInt, 65, 1 << 19, headOf(65, 7), headOf(100, 0), headOf(0, 1<<32), headOf(1, 1<<32), 1 << 62, math.MaxInt}
}

// noLinks are numbers that are no top.
func noLinks() []int {
	return []int{-1, 65, 66, 1 << 20, 1 << 32, 1<<32 + 1, math.MinInt, math.MinInt + 1, math.MaxInt}
}

// headOf is a head's word by sums alone.
func headOf(top int, tag int) int { return top + tag*1048576 }

func configOf(slots int) api.Config { return api.Config{Arena: 8, Slots: slots, Threads: 1} }

// linkAt is the place of a slot's link by sums alone, of a config of one thread; the stack's is 1.
func linkAt(slot int) int { return 5 + 3*slot + 2 }

func layoutOf(t *testing.T, slots int) layout.Layout {
	t.Helper()
	l, err := layout.Of(configOf(slots))
	if err != api.OK {
		t.Fatalf("P6.1: Of %d slots: %d", slots, err)
	}
	return l
}

// started are cells, and their layout, of which all slots are free.
func started(t *testing.T, slots int) (*cells.Plain, layout.Layout) {
	t.Helper()
	l := layoutOf(t, slots)
	m := cells.New(l.Words(), 8)
	if err := layout.Start(m, configOf(slots)); err != api.OK {
		t.Fatalf("P6.2: Start of %d slots: %d", slots, err)
	}
	return m, l
}

// listed are cells in which these slots are free, in this order, behind a tag; what else there is is none of the stack's.
func listed(t *testing.T, slots int, tag int, free ...int) (*cells.Plain, layout.Layout) {
	t.Helper()
	l := layoutOf(t, slots)
	m := cells.New(l.Words(), 8)
	for i := range l.Words() {
		m.Store(i, 1000000+i)
	}
	top := 0
	for _, s := range slices.Backward(free) {
		m.Store(linkAt(s), top)
		top = s + 1
	}
	m.Store(1, headOf(top, tag))
	return m, l
}

// noted are cells that note what is called.
type noted struct {
	cells.Cells
	calls []string
}

func (n *noted) note(name string, numbers ...int) {
	words := []string{name}
	for _, i := range numbers {
		words = append(words, strconv.Itoa(i))
	}
	n.calls = append(n.calls, strings.Join(words, " "))
}

func (n *noted) Load(i int) int {
	n.note("load", i)
	return n.Cells.Load(i)
}

func (n *noted) Store(i int, w int) {
	n.note("store", i, w)
	n.Cells.Store(i, w)
}

func (n *noted) Cas(i int, old int, w int) bool {
	n.note("cas", i, old, w)
	return n.Cells.Cas(i, old, w)
}

func (n *noted) Byte(i int) int {
	n.note("byte", i)
	return n.Cells.Byte(i)
}

func (n *noted) SetByte(i int, b int) {
	n.note("setbyte", i, b)
	n.Cells.SetByte(i, b)
}

// call is what a step is to call, in noted's words.
func call(name string, numbers ...int) string {
	n := noted{}
	n.note(name, numbers...)
	return n.calls[0]
}

// answer is what a step told; of a Push the slot is 0.
type answer struct {
	slot int
	err  api.Errno
	end  bool
}

var on = answer{}

func ended(slot int) answer       { return answer{slot, api.OK, true} }
func failed(err api.Errno) answer { return answer{0, err, true} }

// stepper is a Pop or a Push.
type stepper func(m cells.Cells) answer

func popper(p *stack.Pop) stepper {
	return func(m cells.Cells) answer {
		slot, err, end := p.Step(m)
		return answer{slot, err, end}
	}
}

func pusher(p *stack.Push) stepper {
	return func(m cells.Cells) answer {
		err, end := p.Step(m)
		return answer{0, err, end}
	}
}

// step has a machine do a step, that makes this call and no other ("" is none), and tells this.
func step(t *testing.T, promise string, s stepper, m cells.Cells, want string, told answer) {
	t.Helper()
	n := &noted{Cells: m}
	got := s(n)
	if calls := strings.Join(n.calls, ", "); calls != want {
		t.Errorf("%s: a step calls %q, not %q", promise, calls, want)
	}
	if got != told {
		t.Errorf("%s: a step tells %v, not %v", promise, got, told)
	}
}

// same has cells be as others are, whatever steps it took.
func same(t *testing.T, promise string, m cells.Cells, want cells.Cells) {
	t.Helper()
	for i := range want.Words() {
		if got := m.Load(i); got != want.Load(i) {
			t.Errorf("%s: word %d: %d, not %d", promise, i, got, want.Load(i))
		}
	}
	for i := range want.Bytes() {
		if got := m.Byte(i); got != want.Byte(i) {
			t.Errorf("%s: byte %d: %d, not %d", promise, i, got, want.Byte(i))
		}
	}
}

// run steps a machine to its end.
func run(t *testing.T, s stepper, m cells.Cells) answer {
	t.Helper()
	for range 100 {
		if got := s(m); got.end {
			return got
		}
	}
	t.Fatal("P10.1, P10.2: no end in 100 steps")
	return on
}

func TestExample(t *testing.T) {
	m, l := started(t, 5)
	s := popper(stack.NewPop(l))
	step(t, "P10.1", s, m, call("load", 1), on)
	step(t, "P10.1", s, m, call("load", linkAt(0)), on)
	step(t, "P10.1", s, m, call("cas", 1, headOf(1, 0), headOf(2, 1)), ended(0))
}

// TestPopSteps has pops of some heads and links, the last slot's among them.
func TestPopSteps(t *testing.T) {
	for _, c := range []struct {
		slots int
		tag   int
		free  []int
		next  int
	}{
		{1, 0, []int{0}, headOf(0, 1)},
		{5, 0, []int{0, 1}, headOf(2, 1)},
		{5, 77, []int{3, 0, 4}, headOf(1, 78)},
		{5, 1<<32 - 1, []int{4, 2}, headOf(3, 0)},
		{5, 1<<32 - 2, []int{4}, headOf(0, 1<<32-1)},
		{64, 9, []int{63, 62}, headOf(63, 10)},
		{64, 9, []int{62, 63}, headOf(64, 10)},
		{64, 9, []int{63}, headOf(0, 10)},
	} {
		m, l := listed(t, c.slots, c.tag, c.free...)
		want := m.Copy()
		want.Store(1, c.next)
		s, top := popper(stack.NewPop(l)), c.free[0]
		step(t, "P10.1", s, m, call("load", 1), on)
		step(t, "P10.1", s, m, call("load", linkAt(top)), on)
		step(t, "P10.1", s, m, call("cas", 1, headOf(top+1, c.tag), c.next), ended(top))
		step(t, "P10.1", s, m, "", failed(api.ErrArg))
		step(t, "P10.1", s, m, "", failed(api.ErrArg))
		same(t, "P10.1", m, want)
	}
}

func TestPopOfNone(t *testing.T) {
	for _, tag := range []int{0, 1, 77, 1<<32 - 1} {
		m, l := listed(t, 5, tag)
		want := m.Copy()
		s := popper(stack.NewPop(l))
		step(t, "P10.1", s, m, call("load", 1), failed(api.ErrSlots))
		step(t, "P10.1", s, m, "", failed(api.ErrArg))
		m.Store(1, headOf(1, 0))
		step(t, "P10.1", s, m, "", failed(api.ErrArg))
		m.Store(1, headOf(0, tag))
		same(t, "P10.1", m, want)
	}
}

func TestPopOfWrongWords(t *testing.T) {
	for _, word := range noHeads() {
		m, l := listed(t, 5, 3, 1, 2)
		m.Store(1, word)
		want := m.Copy()
		s := popper(stack.NewPop(l))
		step(t, "P10.1", s, m, call("load", 1), failed(api.ErrForm))
		step(t, "P10.1", s, m, "", failed(api.ErrArg))
		same(t, "P10.1", m, want)
	}
	for _, link := range noLinks() {
		m, l := listed(t, 5, 3, 1, 2)
		m.Store(linkAt(1), link)
		want := m.Copy()
		s := popper(stack.NewPop(l))
		step(t, "P10.1", s, m, call("load", 1), on)
		step(t, "P10.1", s, m, call("load", linkAt(1)), failed(api.ErrForm))
		step(t, "P10.1", s, m, "", failed(api.ErrArg))
		same(t, "P10.1", m, want)
	}
}

// TestPopOfLinks has links that tops are, whatever slot they tell of: one that is itself, and one that there is not.
func TestPopOfLinks(t *testing.T) {
	for _, link := range []int{0, 1, 2, 3, 5, 6, 64} {
		m, l := listed(t, 5, 3, 1, 2)
		m.Store(linkAt(1), link)
		s := popper(stack.NewPop(l))
		step(t, "P10.1", s, m, call("load", 1), on)
		step(t, "P10.1", s, m, call("load", linkAt(1)), on)
		step(t, "P10.1", s, m, call("cas", 1, headOf(2, 3), headOf(link, 4)), ended(1))
	}
}

// TestPopGoesAgain turns the word between a Pop's Load and its Cas: the Cas tells so, and the Pop takes what is there then.
func TestPopGoesAgain(t *testing.T) {
	m, l := listed(t, 5, 10, 1, 2, 3)
	s := popper(stack.NewPop(l))
	step(t, "P10.1", s, m, call("load", 1), on)
	step(t, "P10.1", s, m, call("load", linkAt(1)), on)
	m.Store(1, headOf(2, 11))
	step(t, "P10.1", s, m, call("cas", 1, headOf(2, 10), headOf(3, 11)), on)
	step(t, "P10.1", s, m, call("load", 1), on)
	m.Store(1, headOf(4, 12))
	step(t, "P10.1", s, m, call("load", linkAt(1)), on)
	step(t, "P10.1", s, m, call("cas", 1, headOf(2, 11), headOf(3, 12)), on)
	step(t, "P10.1", s, m, call("load", 1), on)
	step(t, "P10.1", s, m, call("load", linkAt(3)), on)
	step(t, "P10.1", s, m, call("cas", 1, headOf(4, 12), headOf(0, 13)), ended(3))
	for word, err := range map[int]api.Errno{headOf(0, 11): api.ErrSlots, -1: api.ErrForm} {
		m, l := listed(t, 5, 10, 1, 2, 3)
		s := popper(stack.NewPop(l))
		s(m)
		s(m)
		m.Store(1, word)
		step(t, "P10.1", s, m, call("cas", 1, headOf(2, 10), headOf(3, 11)), on)
		step(t, "P10.1", s, m, call("load", 1), failed(err))
	}
}

// TestPopOfAWordThatIsBack turns the word, and back again: the Cas is of the word alone, and is done.
func TestPopOfAWordThatIsBack(t *testing.T) {
	m, l := listed(t, 5, 10, 1, 2, 3)
	s := popper(stack.NewPop(l))
	s(m)
	m.Store(1, headOf(4, 11))
	s(m)
	m.Store(1, headOf(2, 10))
	m.Store(linkAt(1), 0)
	step(t, "P10.1", s, m, call("cas", 1, headOf(2, 10), headOf(3, 11)), ended(1))
}

// TestPopKnowsTheSlotThatIsBack has the same slot be ahead again, by machines: its tag is another one, and the link that a Pop read is none of its.
func TestPopKnowsTheSlotThatIsBack(t *testing.T) {
	m, l := listed(t, 5, 10, 1, 2, 3)
	s := popper(stack.NewPop(l))
	s(m)
	s(m) // link: slot 2
	for _, want := range []int{1, 2} {
		if got := run(t, popper(stack.NewPop(l)), m); got != ended(want) {
			t.Fatalf("P10.1: a Pop: %v, not slot %d", got, want)
		}
	}
	if got := run(t, pusher(stack.NewPush(l, 1)), m); got != ended(0) {
		t.Fatalf("P10.2: a Push: %v", got)
	}
	if free := stack.Free(m, l); !slices.Equal(free, []int{1, 3}) {
		t.Fatalf("P10.3: %v, not 1, 3", free)
	}
	step(t, "P10.4", s, m, call("cas", 1, headOf(2, 10), headOf(3, 11)), on)
	if got := run(t, s, m); got != ended(1) {
		t.Errorf("P10.4: the Pop: %v, not slot 1", got)
	}
	if free := stack.Free(m, l); !slices.Equal(free, []int{3}) {
		t.Errorf("P10.4: %v are free, not slot 3 alone", free)
	}
}

// TestPushSteps has pushes onto some heads, of the first and the last slot among them.
func TestPushSteps(t *testing.T) {
	for _, c := range []struct {
		slots int
		tag   int
		free  []int
		slot  int
		next  int
		link  int
	}{
		{1, 0, nil, 0, headOf(1, 1), 0},
		{5, 0, nil, 4, headOf(5, 1), 0},
		{5, 0, []int{1}, 0, headOf(1, 1), 2},
		{5, 77, []int{0, 3}, 4, headOf(5, 78), 1},
		{5, 1<<32 - 1, []int{4, 2}, 3, headOf(4, 0), 5},
		{5, 1<<32 - 2, nil, 3, headOf(4, 1<<32-1), 0},
		{64, 9, []int{62}, 63, headOf(64, 10), 63},
		{64, 9, []int{63}, 0, headOf(1, 10), 64},
		{5, 9, []int{3}, 3, headOf(4, 10), 4}, // a slot that is free already
	} {
		m, l := listed(t, c.slots, c.tag, c.free...)
		want := m.Copy()
		want.Store(1, c.next)
		want.Store(linkAt(c.slot), c.link)
		s, word := pusher(stack.NewPush(l, c.slot)), m.Load(1)
		step(t, "P10.2", s, m, call("load", 1), on)
		step(t, "P10.2", s, m, call("store", linkAt(c.slot), c.link), on)
		step(t, "P10.2", s, m, call("cas", 1, word, c.next), ended(0))
		step(t, "P10.2", s, m, "", failed(api.ErrArg))
		step(t, "P10.2", s, m, "", failed(api.ErrArg))
		same(t, "P10.2", m, want)
	}
}

func TestPushOfSlotsThatThereAreNot(t *testing.T) {
	for _, slots := range []int{1, 5, 63, 64} {
		for _, slot := range []int{math.MinInt, math.MinInt + 1, -1 << 32, -2, -1, slots, slots + 1, 64, 65, 1 << 32, 1 << 62, math.MaxInt - 1, math.MaxInt} {
			m, l := started(t, slots)
			want := m.Copy()
			s := pusher(stack.NewPush(l, slot))
			step(t, "P10.2", s, m, "", failed(api.ErrArg))
			step(t, "P10.2", s, m, "", failed(api.ErrArg))
			same(t, "P10.2", m, want)
		}
	}
	m, l := listed(t, 5, 1, 2)
	m.Store(1, -1)
	step(t, "P10.2", pusher(stack.NewPush(l, 5)), m, "", failed(api.ErrArg))
	for _, slot := range []int{-1, 0, 1, 63} {
		step(t, "P10.2", pusher(stack.NewPush(layout.Layout{}, slot)), m, "", failed(api.ErrArg))
	}
}

func TestPushOntoWrongWords(t *testing.T) {
	for _, word := range noHeads() {
		m, l := listed(t, 5, 3, 1, 2)
		m.Store(1, word)
		want := m.Copy()
		s := pusher(stack.NewPush(l, 4))
		step(t, "P10.2", s, m, call("load", 1), failed(api.ErrForm))
		step(t, "P10.2", s, m, "", failed(api.ErrArg))
		same(t, "P10.2", m, want)
	}
}

// TestPushGoesAgain turns the word between a Push's Load and its Cas: the link is stored anew.
func TestPushGoesAgain(t *testing.T) {
	m, l := listed(t, 5, 10, 1)
	s := pusher(stack.NewPush(l, 4))
	step(t, "P10.2", s, m, call("load", 1), on)
	m.Store(1, headOf(0, 11))
	step(t, "P10.2", s, m, call("store", linkAt(4), 2), on)
	step(t, "P10.2", s, m, call("cas", 1, headOf(2, 10), headOf(5, 11)), on)
	step(t, "P10.2", s, m, call("load", 1), on)
	step(t, "P10.2", s, m, call("store", linkAt(4), 0), on)
	m.Store(1, -1)
	step(t, "P10.2", s, m, call("cas", 1, headOf(0, 11), headOf(5, 12)), on)
	step(t, "P10.2", s, m, call("load", 1), failed(api.ErrForm))
	m, l = listed(t, 5, 10, 1)
	s = pusher(stack.NewPush(l, 4))
	s(m)
	m.Store(1, headOf(0, 11))
	s(m)
	m.Store(1, headOf(2, 10))
	step(t, "P10.2", s, m, call("cas", 1, headOf(2, 10), headOf(5, 11)), ended(0))
}

// TestNil has machines that are nil, an m that is nil, and machines that go on behind that as if nothing had been.
func TestNil(t *testing.T) {
	m, l := started(t, 5)
	want := m.Copy()
	step(t, "P10.1", popper(nil), m, "", failed(api.ErrArg))
	step(t, "P10.2", pusher(nil), m, "", failed(api.ErrArg))
	same(t, "P10.1, P10.2", m, want)
	for name, s := range map[string]stepper{"Pop of nil": popper(nil), "Push of nil": pusher(nil), "Pop": popper(stack.NewPop(l)), "Push": pusher(stack.NewPush(l, 3)), "Push of no slot": pusher(stack.NewPush(l, 5))} {
		for range 3 {
			if got := s(nil); got != failed(api.ErrArg) {
				t.Errorf("P10.1, P10.2: %s: a step of a nil m tells %v", name, got)
			}
		}
	}
	pop, push := popper(stack.NewPop(l)), pusher(stack.NewPush(l, 3))
	for i := range 3 {
		end := i == 2
		for _, s := range []stepper{pop, push} {
			if got := s(nil); got != failed(api.ErrArg) {
				t.Errorf("P10.1, P10.2: a step of a nil m tells %v", got)
			}
		}
		if got := pop(m); got.end != end || got.err != api.OK {
			t.Errorf("P10.1: step %d, with nil ahead of it: %v", i, got)
		}
	}
	for i := range 3 {
		push(nil)
		if got := push(m); got.end != (i == 2) || got.err != api.OK {
			t.Errorf("P10.2: step %d, with nil ahead of it: %v", i, got)
		}
	}
	if free := stack.Free(m, l); !slices.Equal(free, []int{3, 1, 2, 3, 1}) {
		t.Errorf("P10.2: %v are free", free)
	}
}

// TestTooFewCells has cells without the stack's word, or without a slot's link: they tell 0, and nothing is stored.
func TestTooFewCells(t *testing.T) {
	l := layoutOf(t, 5)
	var none *cells.Plain
	var noAtomic *cells.Atomic
	for _, m := range []cells.Cells{cells.New(1, 0), cells.NewAtomic(1, 8), none, noAtomic} {
		step(t, "P10.1", popper(stack.NewPop(l)), m, call("load", 1), failed(api.ErrSlots))
		if free := stack.Free(m, l); len(free) != 0 {
			t.Errorf("P10.3: of too few cells: %v", free)
		}
		s := pusher(stack.NewPush(l, 2))
		for range 20 {
			step(t, "P10.2", s, m, call("load", 1), on)
			step(t, "P10.2", s, m, call("store", linkAt(2), 0), on)
			step(t, "P10.2", s, m, call("cas", 1, 0, headOf(3, 1)), on)
		}
		if m.Load(0) != 0 {
			t.Errorf("P10.2: word 0 is %d", m.Load(0))
		}
	}
	two := cells.New(2, 0)
	two.Store(1, headOf(3, 4))
	if free := stack.Free(two, l); !slices.Equal(free, []int{2}) {
		t.Errorf("P10.3: without links: %v, not slot 2 alone", free)
	}
	if got := run(t, popper(stack.NewPop(l)), two); got != ended(2) || two.Load(1) != headOf(0, 5) {
		t.Errorf("P10.1: without links: %v, and the stack %d", got, two.Load(1))
	}
	if got := run(t, pusher(stack.NewPush(l, 3)), two); got != ended(0) || two.Load(1) != headOf(4, 6) {
		t.Errorf("P10.2: without links: %v, and the stack %d", got, two.Load(1))
	}
}

func TestFree(t *testing.T) {
	for _, slots := range []int{1, 2, 5, 63, 64} {
		m, l := started(t, slots)
		var all []int
		for s := range slots {
			all = append(all, s)
		}
		for at := range slots + 1 {
			want := m.Copy()
			if free := stack.Free(m, l); !slices.Equal(free, all[at:]) {
				t.Errorf("P10.3: %d of %d slots were taken: %v", at, slots, free)
			}
			same(t, "P10.3", m, want)
			run(t, popper(stack.NewPop(l)), m)
		}
	}
	for _, free := range [][]int{nil, {0}, {4}, {4, 0}, {3, 1, 4, 0, 2}, {2, 0, 1}} {
		m, l := listed(t, 5, 1<<32-1, free...)
		if got := stack.Free(m, l); !slices.Equal(got, free) {
			t.Errorf("P10.3: %v, not %v", got, free)
		}
	}
}

func TestFreeOfWrongCells(t *testing.T) {
	m, l := listed(t, 5, 9, 3, 1, 4)
	if free := stack.Free(nil, l); len(free) != 0 {
		t.Errorf("P10.3: of nil: %v", free)
	}
	if free := stack.Free(m, layout.Layout{}); len(free) != 0 {
		t.Errorf("P10.3: of the zero layout: %v", free)
	}
	for _, word := range noHeads() {
		wrong := m.Copy()
		wrong.Store(1, word)
		if free := stack.Free(wrong, l); len(free) != 0 {
			t.Errorf("P10.3: of the word %d: %v", word, free)
		}
	}
	for _, link := range append(noLinks(), 6, 64) {
		wrong := m.Copy()
		wrong.Store(linkAt(1), link)
		if free := stack.Free(wrong, l); !slices.Equal(free, []int{3, 1}) {
			t.Errorf("P10.3: behind the link %d: %v, not 3, 1", link, free)
		}
	}
	for _, top := range []int{6, 7, 64} {
		wrong := m.Copy()
		wrong.Store(1, headOf(top, 9))
		if free := stack.Free(wrong, l); len(free) != 0 {
			t.Errorf("P10.3: of the top %d: %v", top, free)
		}
	}
}

// TestFreeGoesAround has links that come again: as many slots are told as there are in all.
func TestFreeGoesAround(t *testing.T) {
	m, l := listed(t, 5, 9, 3, 1, 4)
	m.Store(linkAt(4), 4)
	if free := stack.Free(m, l); !slices.Equal(free, []int{3, 1, 4, 3, 1}) {
		t.Errorf("P10.3: links that go around: %v", free)
	}
	m.Store(linkAt(3), 4)
	if free := stack.Free(m, l); !slices.Equal(free, []int{3, 3, 3, 3, 3}) {
		t.Errorf("P10.3: a link to its own slot: %v", free)
	}
	one, l := listed(t, 1, 0, 0)
	one.Store(linkAt(0), 1)
	if free := stack.Free(one, l); !slices.Equal(free, []int{0}) {
		t.Errorf("P10.3: a link to the only slot: %v", free)
	}
	many, l := started(t, 64)
	many.Store(linkAt(63), 1)
	if free := stack.Free(many, l); len(free) != 64 {
		t.Errorf("P10.3: 64 slots that go around: %d are told", len(free))
	}
}

// TestFreeIsNew has answers of two calls share nothing.
func TestFreeIsNew(t *testing.T) {
	m, l := started(t, 5)
	first := stack.Free(m, l)
	clear(first[:cap(first)])
	if second := stack.Free(m, l); !slices.Equal(second, []int{0, 1, 2, 3, 4}) {
		t.Errorf("R5: Free behind a change of an answer: %v", second)
	}
}

// TestAllAreTakenAndGiven takes and gives all slots one after the other, over both kinds of cells.
func TestAllAreTakenAndGiven(t *testing.T) {
	for _, slots := range []int{1, 2, 17, 64} {
		l := layoutOf(t, slots)
		for _, m := range []cells.Cells{cells.New(l.Words(), 8), cells.NewAtomic(l.Words(), 8)} {
			layout.Start(m, configOf(slots))
			for s := range slots {
				if got := run(t, popper(stack.NewPop(l)), m); got != ended(s) {
					t.Errorf("P10.1: Pop %d of %d slots: %v", s, slots, got)
				}
			}
			if got := run(t, popper(stack.NewPop(l)), m); got != failed(api.ErrSlots) {
				t.Errorf("P10.1: a Pop behind the last one of %d slots: %v", slots, got)
			}
			for s := range slots {
				if got := run(t, pusher(stack.NewPush(l, s)), m); got != ended(0) {
					t.Errorf("P10.2: Push %d of %d slots: %v", s, slots, got)
				}
			}
			for s := slots - 1; s >= 0; s-- {
				if got := run(t, popper(stack.NewPop(l)), m); got != ended(s) {
					t.Errorf("P10.4: what was given: slot %d of %d: %v", s, slots, got)
				}
			}
			if m.Load(1) != headOf(0, 3*slots) {
				t.Errorf("P10.4: the stack of %d slots is %d", slots, m.Load(1))
			}
		}
	}
}
