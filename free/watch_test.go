package free_test

import (
	"strconv"
	"strings"
	"testing"

	"sidings/api"
	"sidings/cells"
	"sidings/free"
	"sidings/layout"
)

// headOf, wordOf and handleOf are words and handles by sums alone.
func headOf(top int, tag int) int { return top + tag*1048576 }

func wordOf(offset int, gen int) int {
	return offset + gen*1048576 + 562949953421312
}

// What a word has besides.
const (
	onePin = 1099511627776
	guard  = 17592186044416
	lock   = 281474976710656
)

const mostTag = 4294967295

// freed is the word of a slot in which nothing lives.
func freed(gen int) int { return gen * 1048576 }

func handleOf(slot int, gen int) int { return 1099511627776 + gen*1048576 + slot }

const stackAt = 1

func entryAt(c api.Config, slot int) int { return 4 + c.Threads + 3*slot }
func sizeAt(c api.Config, slot int) int  { return entryAt(c, slot) + 1 }
func linkAt(c api.Config, slot int) int  { return entryAt(c, slot) + 2 }

// noted are cells that note what is called.
type noted struct {
	cells.Cells
	calls []string
}

func (n *noted) note(name string, numbers ...int) {
	words := []string{name}
	for _, i := range numbers {
		words = append(words, strconv.Itoa(i))
	}
	n.calls = append(n.calls, strings.Join(words, " "))
}

func (n *noted) Load(i int) int {
	n.note("load", i)
	return n.Cells.Load(i)
}

func (n *noted) Store(i int, w int) {
	n.note("store", i, w)
	n.Cells.Store(i, w)
}

func (n *noted) Cas(i int, old int, w int) bool {
	n.note("cas", i, old, w)
	return n.Cells.Cas(i, old, w)
}

func (n *noted) Byte(i int) int {
	n.note("byte", i)
	return n.Cells.Byte(i)
}

func (n *noted) SetByte(i int, b int) {
	n.note("setbyte", i, b)
	n.Cells.SetByte(i, b)
}

// call is what a step is to call, in noted's words.
func call(name string, numbers ...int) string {
	n := noted{}
	n.note(name, numbers...)
	return n.calls[0]
}

func failed(err api.Errno) api.Result { return api.Result{Code: err} }

// step has a machine do a step, that makes this call and no other ("" is none), and tells this.
func step(t *testing.T, x *free.Machine, m cells.Cells, want string, told api.Result, end bool) {
	t.Helper()
	n := &noted{Cells: m}
	r, ends := x.Step(n)
	if calls := strings.Join(n.calls, ", "); calls != want {
		t.Errorf("P15.1: a step calls %q, not %q", calls, want)
	}
	if r != told || ends != end {
		t.Errorf("P15.1: a step (%s) tells %v, %v, not %v, %v", want, r, ends, told, end)
	}
}

const none = -1

// gives has Gives tell this slot, or none.
func gives(t *testing.T, x *free.Machine, slot int) {
	t.Helper()
	wanted, is := slot, true
	if slot == none {
		wanted, is = 0, false
	}
	if got, has := x.Gives(); got != wanted || has != is {
		t.Errorf("P15.2: Gives tells %d, %v, not %d, %v", got, has, wanted, is)
	}
}

// steps has a machine do steps that are not the last one, and give this slot, or none, ahead of each, and behind it.
func steps(t *testing.T, x *free.Machine, m cells.Cells, slot int, calls ...string) {
	t.Helper()
	for _, want := range calls {
		gives(t, x, slot)
		step(t, x, m, want, api.Result{}, false)
		gives(t, x, slot)
	}
}

// take has a machine do the step behind which it gives the slot.
func take(t *testing.T, x *free.Machine, m cells.Cells, slot int, want string) {
	t.Helper()
	gives(t, x, none)
	step(t, x, m, want, api.Result{}, false)
	gives(t, x, slot)
}

// last has a machine do its last step, and two behind it.
func last(t *testing.T, x *free.Machine, m cells.Cells, want string, told api.Result) {
	t.Helper()
	step(t, x, m, want, told, true)
	for range 2 {
		gives(t, x, none)
		step(t, x, m, "", failed(api.ErrArg), true)
	}
	gives(t, x, none)
}

// run steps a machine to its end.
func run(t *testing.T, x *free.Machine, m cells.Cells) api.Result {
	t.Helper()
	for range 1000 {
		if r, end := x.Step(m); end {
			return r
		}
	}
	t.Fatal("P15.1: no end in 1000 steps")
	return api.Result{}
}

// same has cells be as others are, whatever steps it took.
func same(t *testing.T, m cells.Cells, want cells.Cells) {
	t.Helper()
	for i := range want.Words() {
		if got := m.Load(i); got != want.Load(i) {
			t.Errorf("P15.1: word %d: %d, not %d", i, got, want.Load(i))
		}
	}
	for i := range want.Bytes() {
		if got := m.Byte(i); got != want.Byte(i) {
			t.Errorf("P15.1: byte %d: %d, not %d", i, got, want.Byte(i))
		}
	}
}

// filled are cells of which all slots are free, and each byte is another one than those near it.
func filled(t *testing.T, c api.Config) *cells.Plain {
	t.Helper()
	l, err := layout.Of(c)
	if err != api.OK {
		t.Fatalf("P6.1: Of %v: %d", c, err)
	}
	m := cells.New(l.Words(), c.Arena)
	if err := layout.Start(m, c); err != api.OK {
		t.Fatalf("P6.2: Start of %v: %d", c, err)
	}
	for i := range c.Arena {
		m.SetByte(i, byteOf(i))
	}
	return m
}

func byteOf(i int) int { return 1 + i%255 }
