package model_test

import (
	"slices"
	"testing"

	"sidings/api"
	"sidings/model"
)

// done is an op that was answered by OK.
type done struct {
	o api.Op
	n int
}

// log is all that was done, in order: what a handle means is found by going through it, so that nothing is kept of it.
type log []done

// sizeOf tells how many bytes a handle's object has; 0 if it is not live.
func (l log) sizeOf(h int) int {
	size := 0
	for _, d := range l {
		if d.o.Do == 0 && d.n == h {
			size = d.o.N
		}
		if d.o.Do == 1 && d.o.H == h {
			size = 0
		}
	}
	return size
}

func (l log) wasTold(h int) bool {
	return slices.ContainsFunc(l, func(d done) bool { return d.o.Do == 0 && d.n == h })
}

func (l log) byteAt(h int, off int) int {
	b := 0
	for _, d := range l {
		if d.o.Do == 3 && d.o.H == h && d.o.Off == off {
			b = (d.o.N%256 + 256) % 256
		}
	}
	return b
}

func (l log) pinsOf(h int) int {
	pins := 0
	for _, d := range l {
		if d.o.H == h && d.o.Do == 4 {
			pins++
		}
		if d.o.H == h && d.o.Do == 5 {
			pins--
		}
	}
	return pins
}

// answer goes by the words of P7.1.
func (l log) answer(o api.Op) (api.Result, bool) {
	size, pins := l.sizeOf(o.H), l.pinsOf(o.H)
	if o.Do < 0 || o.Do > 5 {
		return api.Result{Code: api.ErrArg}, true
	}
	if o.Do == 0 {
		if o.N < 1 || o.N > 256 {
			return api.Result{Code: api.ErrSize}, true
		}
		return api.Result{}, false
	}
	if size == 0 {
		return api.Result{Code: api.ErrStale}, true
	}
	if o.Do == 1 && pins != 0 {
		return api.Result{Code: api.ErrPinned}, true
	}
	if (o.Do == 2 || o.Do == 3) && (o.Off < 0 || o.Off >= size) {
		return api.Result{Code: api.ErrRange}, true
	}
	if o.Do == 2 {
		return api.Result{N: l.byteAt(o.H, o.Off)}, true
	}
	if o.Do == 4 && pins == 7 {
		return api.Result{Code: api.ErrPinOver}, true
	}
	if o.Do == 5 && pins == 0 {
		return api.Result{Code: api.ErrNotPinned}, true
	}
	return api.Result{}, true
}

// may goes by the words of P7.2; of the numbers that a walk answers an Alloc with 0 alone is no handle.
func (l log) may(o api.Op, r api.Result) bool {
	own, has := l.answer(o)
	if has {
		return r == own
	}
	if r.Code == api.ErrRoom || r.Code == api.ErrSlots {
		return r.N == 0
	}
	return r.Code == api.OK && r.N != 0 && !l.wasTold(r.N)
}

// dice turns over by a rule, so that a walk is the same each time.
type dice int

func (d *dice) roll(n int) int {
	*d = (*d*1103515245 + 12345) % (1 << 31)
	return int(*d>>12) % n
}

// handles are few, so that each one is asked often, and is told when it is live, and when it was freed.
func (d *dice) handle() int { return handleOf(d.roll(3), d.roll(12)) }

func (d *dice) op() api.Op {
	o := api.Op{Do: []int{0, 1, 2, 2, 3, 3, 3, 4, 4, 4, 5, 5, -1, 6}[d.roll(14)], H: d.handle(), Off: d.roll(9) - 1, N: d.roll(2000) - 1000}
	if o.Do == 0 {
		o.N = []int{1, 2, 4, 6, 8, 0, 257, -3}[d.roll(8)]
	}
	return o
}

// answer is often the right one, or one that is near it.
func (d *dice) answer(own api.Result, has bool) api.Result {
	if !has {
		own.N = d.handle()
	}
	switch d.roll(8) {
	case 0:
		own.N++
	case 1:
		own.N = 0
	case 2:
		own.Code = api.Errno(d.roll(13))
	case 3:
		return api.Result{Code: []api.Errno{api.ErrRoom, api.ErrSlots}[d.roll(2)]}
	}
	return own
}

// checkState asks the map of all handles of the walk; a slot more than are rolled, as some answers are one too high.
func checkState(t *testing.T, m *model.Map, l log) {
	t.Helper()
	var live []int
	for gen := range 12 {
		for slot := range 4 {
			h := handleOf(slot, gen)
			var want []int
			for off := range l.sizeOf(h) {
				want = append(want, l.byteAt(h, off))
			}
			if len(want) > 0 {
				live = append(live, h)
			}
			pins := l.pinsOf(h)
			if b := m.Bytes(h); !slices.Equal(b, want) || m.Pins(h) != pins {
				t.Fatalf("P7.3: of %d: %v, %d, not %v, %d", h, b, m.Pins(h), want, pins)
			}
		}
	}
	if got := m.Live(); !slices.Equal(got, live) {
		t.Fatalf("P7.3: live are %v, not %v", got, live)
	}
}

// TestWalks asks and tries many ops, and holds each answer against the log of what was done.
func TestWalks(t *testing.T) {
	for start := range 30 {
		d, m := dice(start*7919+1), model.New()
		var l log
		for range 400 {
			o := d.op()
			own, has := l.answer(o)
			if r, ok := m.Answer(o); r != own || ok != has {
				t.Fatalf("P7.1: walk %d: Answer(%v): %v, %v, not %v, %v", start, o, r, ok, own, has)
			}
			r := d.answer(own, has)
			want := l.may(o, r)
			if got := m.Try(o, r); got != want {
				t.Fatalf("P7.2: walk %d: Try(%v, %v): %v, not %v", start, o, r, got, want)
			}
			if want && r.Code == api.OK {
				l = append(l, done{o, r.N})
			}
			checkState(t, m, l)
		}
	}
}

// TestWalksMeet has two maps do the same, one of them a copy at each step: they stay like each other.
func TestWalksMeet(t *testing.T) {
	for start := range 10 {
		d, m, c := dice(start*104729+5), model.New(), model.New()
		for range 300 {
			o := d.op()
			own, has := m.Answer(o)
			r := d.answer(own, has)
			c = c.Copy()
			if first, second := m.Try(o, r), c.Try(o, r); first != second || !m.Same(c) || !c.Same(m) {
				t.Fatalf("P7.3: walk %d: Try(%v, %v): %v, %v, Same %v", start, o, r, first, second, m.Same(c))
			}
		}
	}
}
