package epoch_test

import (
	"strconv"
	"strings"
	"testing"

	"sidings/api"
	"sidings/cells"
	"sidings/epoch"
	"sidings/layout"
)

const epochAt = 3

func noteAt(thread int) int { return 4 + thread }

// noted are cells that note what is called.
type noted struct {
	cells.Cells
	calls []string
}

func (n *noted) note(name string, numbers ...int) {
	words := []string{name}
	for _, i := range numbers {
		words = append(words, strconv.Itoa(i))
	}
	n.calls = append(n.calls, strings.Join(words, " "))
}

func (n *noted) Load(i int) int {
	n.note("load", i)
	return n.Cells.Load(i)
}

func (n *noted) Store(i int, w int) {
	n.note("store", i, w)
	n.Cells.Store(i, w)
}

func (n *noted) Cas(i int, old int, w int) bool {
	n.note("cas", i, old, w)
	return n.Cells.Cas(i, old, w)
}

func (n *noted) Byte(i int) int {
	n.note("byte", i)
	return n.Cells.Byte(i)
}

func (n *noted) SetByte(i int, b int) {
	n.note("setbyte", i, b)
	n.Cells.SetByte(i, b)
}

// call is what a step is to call, in noted's words.
func call(name string, numbers ...int) string {
	n := noted{}
	n.note(name, numbers...)
	return n.calls[0]
}

func loadEpoch() string           { return call("load", epochAt) }
func loadNote(thread int) string  { return call("load", noteAt(thread)) }
func raise(from int) string       { return call("cas", epochAt, from, from+1) }
func note(thread, n int) string   { return call("store", noteAt(thread), n) }
func called(n *noted) string      { return strings.Join(n.calls, ", ") }
func config(count int) api.Config { return api.Config{Arena: 8, Slots: 2, Threads: count} }

// enterStep has an Enter do a step, that makes this call and no other ("" is none), and tells whether it is the end.
func enterStep(t *testing.T, x *epoch.Enter, m cells.Cells, want string, end bool) {
	t.Helper()
	n := &noted{Cells: m}
	if ends := x.Step(n); ends != end || called(n) != want {
		t.Errorf("P16.1: a step calls %q, not %q, and tells %v, not %v", called(n), want, ends, end)
	}
}

// enters has an Enter do all of its steps, and two behind them.
func enters(t *testing.T, x *epoch.Enter, m cells.Cells, thread int, from int) {
	t.Helper()
	enterStep(t, x, m, loadEpoch(), false)
	enterStep(t, x, m, note(thread, from+1), true)
	enterStep(t, x, m, "", true)
	enterStep(t, x, m, "", true)
}

// exits has Exit make this call and no other ("" is none).
func exits(t *testing.T, m cells.Cells, c api.Config, thread int, want string) {
	t.Helper()
	n := &noted{Cells: m}
	epoch.Exit(n, c, thread)
	if called(n) != want {
		t.Errorf("P16.1: Exit calls %q, not %q", called(n), want)
	}
}

// step has a Turn do a step, that makes this call and no other ("" is none), and tells these.
func step(t *testing.T, x *epoch.Turn, m cells.Cells, want string, left bool, end bool) {
	t.Helper()
	n := &noted{Cells: m}
	if l, e := x.Step(n); l != left || e != end || called(n) != want {
		t.Errorf("P16.2: a step calls %q, not %q, and tells %v, %v, not %v, %v", called(n), want, l, e, left, end)
	}
}

// steps has a Turn do steps that are not the last one.
func steps(t *testing.T, x *epoch.Turn, m cells.Cells, calls ...string) {
	t.Helper()
	for _, want := range calls {
		step(t, x, m, want, false, false)
	}
}

// last has a Turn do its last step, and two behind it.
func last(t *testing.T, x *epoch.Turn, m cells.Cells, want string, left bool) {
	t.Helper()
	step(t, x, m, want, left, true)
	step(t, x, m, "", false, true)
	step(t, x, m, "", false, true)
}

// words are all words of cells.
func words(m cells.Cells) []int {
	var l []int
	for i := range m.Words() {
		l = append(l, m.Load(i))
	}
	return l
}

// filled are cells of an epoch and notes; each other word is one that would be found.
func filled(t *testing.T, from int, notes ...int) (*cells.Plain, api.Config) {
	t.Helper()
	c := config(len(notes))
	l, err := layout.Of(c)
	if err != api.OK {
		t.Fatalf("P6.1: Of %v: %d", c, err)
	}
	m := cells.New(l.Words(), c.Arena)
	for i := range l.Words() {
		m.Store(i, -1000-i)
	}
	m.Store(epochAt, from)
	for thread, n := range notes {
		m.Store(noteAt(thread), n)
	}
	return m, c
}
