package write_test

import (
	"strconv"
	"strings"
	"testing"

	"sidings/api"
	"sidings/cells"
	"sidings/layout"
	"sidings/write"
)

// wordOf and handleOf are words and handles by sums alone.
func wordOf(offset int, gen int) int {
	return offset + gen*1048576 + 562949953421312
}

// What a word has besides.
const (
	pin   = 1099511627776
	guard = 17592186044416
	lock  = 281474976710656
)

// guardsOf is how many guards a word has.
func guardsOf(word int) int { return word / guard % 16 }

// freed is the word of a slot in which nothing lives.
func freed(gen int) int { return gen * 1048576 }

func handleOf(slot int, gen int) int { return 1099511627776 + gen*1048576 + slot }

func entryAt(c api.Config, slot int) int { return 4 + c.Threads + 3*slot }
func sizeAt(c api.Config, slot int) int  { return entryAt(c, slot) + 1 }

// noted are cells that note what is called.
type noted struct {
	cells.Cells
	calls []string
}

func (n *noted) note(name string, numbers ...int) {
	words := []string{name}
	for _, i := range numbers {
		words = append(words, strconv.Itoa(i))
	}
	n.calls = append(n.calls, strings.Join(words, " "))
}

func (n *noted) Load(i int) int {
	n.note("load", i)
	return n.Cells.Load(i)
}

func (n *noted) Store(i int, w int) {
	n.note("store", i, w)
	n.Cells.Store(i, w)
}

func (n *noted) Cas(i int, old int, w int) bool {
	n.note("cas", i, old, w)
	return n.Cells.Cas(i, old, w)
}

func (n *noted) Byte(i int) int {
	n.note("byte", i)
	return n.Cells.Byte(i)
}

func (n *noted) SetByte(i int, b int) {
	n.note("setbyte", i, b)
	n.Cells.SetByte(i, b)
}

// call is what a step is to call, in noted's words.
func call(name string, numbers ...int) string {
	n := noted{}
	n.note(name, numbers...)
	return n.calls[0]
}

func failed(err api.Errno) api.Result { return api.Result{Code: err} }

// step has a machine do a step, that makes this call and no other ("" is none), and tells this.
func step(t *testing.T, x *write.Machine, m cells.Cells, want string, told api.Result, end bool) {
	t.Helper()
	n := &noted{Cells: m}
	r, ends := x.Step(n)
	if calls := strings.Join(n.calls, ", "); calls != want {
		t.Errorf("P13.1: a step calls %q, not %q", calls, want)
	}
	if r != told || ends != end {
		t.Errorf("P13.1: a step (%s) tells %v, %v, not %v, %v", want, r, ends, told, end)
	}
}

// bare has a machine do steps that are not the last one, with no guard ahead of any, nor behind.
func bare(t *testing.T, x *write.Machine, m cells.Cells, calls ...string) {
	t.Helper()
	for _, want := range calls {
		guards(t, x, false)
		step(t, x, m, want, api.Result{}, false)
		guards(t, x, false)
	}
}

// take has a machine do the step that takes the guard.
func take(t *testing.T, x *write.Machine, m cells.Cells, want string) {
	t.Helper()
	guards(t, x, false)
	step(t, x, m, want, api.Result{}, false)
	guards(t, x, true)
}

// guarded has a machine do steps that are not the last one, with a guard ahead of each, and behind.
func guarded(t *testing.T, x *write.Machine, m cells.Cells, calls ...string) {
	t.Helper()
	for _, want := range calls {
		guards(t, x, true)
		step(t, x, m, want, api.Result{}, false)
		guards(t, x, true)
	}
}

// last has a machine do its last step, and two behind it.
func last(t *testing.T, x *write.Machine, m cells.Cells, want string, told api.Result) {
	t.Helper()
	step(t, x, m, want, told, true)
	for range 2 {
		guards(t, x, false)
		step(t, x, m, "", failed(api.ErrArg), true)
	}
	guards(t, x, false)
}

func guards(t *testing.T, x *write.Machine, want bool) {
	t.Helper()
	if x.Guards() != want {
		t.Errorf("P13.2: Guards tells %v", x.Guards())
	}
}

// run steps a machine to its end.
func run(t *testing.T, x *write.Machine, m cells.Cells) api.Result {
	t.Helper()
	for range 1000 {
		if r, end := x.Step(m); end {
			return r
		}
	}
	t.Fatal("P13.1: no end in 1000 steps")
	return api.Result{}
}

// same has cells be as others are, whatever steps it took.
func same(t *testing.T, m cells.Cells, want cells.Cells) {
	t.Helper()
	for i := range want.Words() {
		if got := m.Load(i); got != want.Load(i) {
			t.Errorf("P13.1: word %d: %d, not %d", i, got, want.Load(i))
		}
	}
	for i := range want.Bytes() {
		if got := m.Byte(i); got != want.Byte(i) {
			t.Errorf("P13.3: byte %d: %d, not %d", i, got, want.Byte(i))
		}
	}
}

// filled are cells of which all slots are free, and each byte is another one than those near it.
func filled(t *testing.T, c api.Config) *cells.Plain {
	t.Helper()
	l, err := layout.Of(c)
	if err != api.OK {
		t.Fatalf("P6.1: Of %v: %d", c, err)
	}
	m := cells.New(l.Words(), c.Arena)
	if err := layout.Start(m, c); err != api.OK {
		t.Fatalf("P6.2: Start of %v: %d", c, err)
	}
	for i := range c.Arena {
		m.SetByte(i, byteOf(i))
	}
	return m
}

func byteOf(i int) int { return 1 + i%255 }
