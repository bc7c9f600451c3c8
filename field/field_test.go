package field_test

import (
	"math"
	"math/big"
	"testing"

	"sidings/api"
	"sidings/field"
)

const most62 = 1<<62 - 1

// asBits is a word told bit by bit, the lowest one first: the tests' own way to say what a field is.
func asBits(word int) [62]int {
	var b [62]int
	for i := range b {
		b[i] = word % 2
		word /= 2
	}
	return b
}

func asWord(b [62]int) int {
	word, worth := 0, 1
	for i := range b {
		word += b[i] * worth
		worth *= 2
	}
	return word
}

func wordMay(word int) bool { return word >= 0 && word <= most62 }

func fieldMay(f field.Field) bool {
	end := new(big.Int).Add(big.NewInt(int64(f.At)), big.NewInt(int64(f.Bits)))
	return f.At >= 0 && f.Bits >= 1 && f.Bits <= 32 && end.Cmp(big.NewInt(62)) <= 0
}

func wantMost(f field.Field) int {
	most := 1
	for range f.Bits {
		most *= 2
	}
	return most - 1
}

func wantGet(word int, f field.Field) int {
	if !wordMay(word) || !fieldMay(f) {
		return 0
	}
	b := asBits(word)
	n, worth := 0, 1
	for i := range f.Bits {
		n += b[f.At+i] * worth
		worth *= 2
	}
	return n
}

// wantWith is the word with that field n; n is one that the field holds.
func wantWith(word int, f field.Field, n int) int {
	b := asBits(word)
	for i := range f.Bits {
		b[f.At+i] = n % 2
		n /= 2
	}
	return asWord(b)
}

func wantPut(word int, f field.Field, n int) (int, api.Errno) {
	switch {
	case !wordMay(word) || !fieldMay(f) || n < 0:
		return 0, api.ErrArg
	case n > wantMost(f):
		return 0, api.ErrOver
	}
	return wantWith(word, f, n), api.OK
}

// sum is Get and by together as it is, however great.
func sum(word int, f field.Field, by int) *big.Int {
	return new(big.Int).Add(big.NewInt(int64(wantGet(word, f))), big.NewInt(int64(by)))
}

func wantAdd(word int, f field.Field, by int) (int, api.Errno) {
	if !wordMay(word) || !fieldMay(f) {
		return 0, api.ErrArg
	}
	s := sum(word, f, by)
	if s.Sign() < 0 || s.Cmp(big.NewInt(int64(wantMost(f)))) > 0 {
		return 0, api.ErrOver
	}
	return wantWith(word, f, int(s.Int64())), api.OK
}

func wantTop(word int, f field.Field, by int) int {
	if !wordMay(word) || !fieldMay(f) {
		return 0
	}
	s, most := sum(word, f, by), wantMost(f)
	switch {
	case s.Sign() < 0:
		return wantWith(word, f, 0)
	case s.Cmp(big.NewInt(int64(most))) > 0:
		return wantWith(word, f, most)
	}
	return wantWith(word, f, int(s.Int64()))
}

func someWords() []int {
	return []int{
		math.MinInt, math.MinInt + 1, -80, -1,
		0, 1, 2, 80, 0xf0f, 0xfff, 1 << 31, 1 << 32, 1<<32 - 1, 0x1555555555555555, 0x2aaaaaaaaaaaaaaa, 0x0123456789abcdef,
		1 << 58, 1 << 61, most62 - 1, most62,
		1 << 62, 1<<62 + 80, math.MaxInt - 1, math.MaxInt,
	}
}

func someFields() []field.Field {
	var l []field.Field
	for _, at := range []int{math.MinInt, -63, -1, 0, 1, 4, 29, 30, 31, 32, 57, 58, 60, 61, 62, 63, 64, math.MaxInt - 32, math.MaxInt - 31, math.MaxInt} {
		for _, bits := range []int{math.MinInt, -1, 0, 1, 2, 4, 31, 32, 33, 34, 61, 62, 63, 64, math.MaxInt} {
			l = append(l, field.Field{At: at, Bits: bits})
		}
	}
	return l
}

// someNumbers are edges of their own, and those around what there is in the word's field and what else goes into it.
func someNumbers(word int, f field.Field) []int {
	l := []int{
		math.MinInt, math.MinInt + 1, -1 << 62, -1 << 32, 1 - 1<<32, -5, -1,
		0, 1, 2, 3, 5, 15, 16, 1<<31 - 1, 1 << 31, 1<<32 - 1, 1 << 32, most62, 1 << 62, math.MaxInt - 1, math.MaxInt,
	}
	if !fieldMay(f) {
		return l
	}
	have, most := wantGet(word, f), wantMost(f)
	for d := -1; d <= 1; d++ {
		l = append(l, most+d, -have+d, most-have+d, -most+d)
	}
	return l
}

func TestCheckEdges(t *testing.T) {
	for _, c := range []struct {
		f    field.Field
		want api.Errno
		most int
	}{
		{field.Field{At: 0, Bits: 1}, api.OK, 1},
		{field.Field{At: 4, Bits: 4}, api.OK, 15},
		{field.Field{At: 61, Bits: 1}, api.OK, 1},
		{field.Field{At: 0, Bits: 32}, api.OK, 4294967295},
		{field.Field{At: 30, Bits: 32}, api.OK, 4294967295},
		{field.Field{At: 31, Bits: 31}, api.OK, 2147483647},
		{field.Field{At: 31, Bits: 32}, api.ErrArg, -1},
		{field.Field{At: 62, Bits: 1}, api.ErrArg, -1},
		{field.Field{At: 62, Bits: 0}, api.ErrArg, -1},
		{field.Field{At: -1, Bits: 4}, api.ErrArg, -1},
		{field.Field{At: 0, Bits: 0}, api.ErrArg, -1},
		{field.Field{At: 0, Bits: -1}, api.ErrArg, -1},
		{field.Field{At: 0, Bits: 33}, api.ErrArg, -1},
		{field.Field{At: math.MaxInt, Bits: 32}, api.ErrArg, -1},
		{field.Field{At: 0, Bits: math.MinInt}, api.ErrArg, -1},
	} {
		if e := field.Check(c.f); e != c.want {
			t.Errorf("P1.1: Check(%v): %d, not %d", c.f, e, c.want)
		}
		if n := field.Most(c.f); n != c.most {
			t.Errorf("P1.1: Most(%v): %d, not %d", c.f, n, c.most)
		}
	}
}

func TestGetEdges(t *testing.T) {
	f := field.Field{At: 4, Bits: 4}
	for _, c := range []struct {
		word int
		f    field.Field
		want int
	}{
		{80, f, 5},
		{0xa5, field.Field{At: 0, Bits: 4}, 5},
		{0xa5, f, 10},
		{most62, field.Field{At: 61, Bits: 1}, 1},
		{most62, field.Field{At: 30, Bits: 32}, 1<<32 - 1},
		{most62 - 1, field.Field{At: 0, Bits: 1}, 0},
		{-1, f, 0},
		{1<<62 + 80, f, 0},
		{math.MaxInt, f, 0},
		{80, field.Field{At: -1, Bits: 4}, 0},
		{80, field.Field{At: 4, Bits: 33}, 0},
		{80, field.Field{At: math.MaxInt, Bits: 4}, 0},
	} {
		if n := field.Get(c.word, c.f); n != c.want {
			t.Errorf("P1.1: Get(%d, %v): %d, not %d", c.word, c.f, n, c.want)
		}
	}
}

func TestPutEdges(t *testing.T) {
	f, wide, none := field.Field{At: 4, Bits: 4}, field.Field{At: 30, Bits: 32}, field.Field{At: 59, Bits: 4}
	for _, c := range []struct {
		word int
		f    field.Field
		n    int
		want int
		err  api.Errno
	}{
		{0, f, 5, 80, api.OK},
		{0xfff, f, 0, 0xf0f, api.OK},
		{0xf0f, f, 15, 0xfff, api.OK},
		{0, f, 16, 0, api.ErrOver},
		{0, wide, 1<<32 - 1, (1<<32 - 1) << 30, api.OK},
		{0, wide, 1 << 32, 0, api.ErrOver},
		{0, wide, math.MaxInt, 0, api.ErrOver},
		{0, field.Field{At: 61, Bits: 1}, 1, 1 << 61, api.OK},
		{most62, field.Field{At: 61, Bits: 1}, 0, 1<<61 - 1, api.OK},
		{0, f, -1, 0, api.ErrArg},
		{0, f, math.MinInt, 0, api.ErrArg},
		{-1, f, 16, 0, api.ErrArg},
		{1 << 62, f, 16, 0, api.ErrArg},
		{0, none, 16, 0, api.ErrArg},
	} {
		if w, e := field.Put(c.word, c.f, c.n); w != c.want || e != c.err {
			t.Errorf("P1.2: Put(%d, %v, %d): %d, %d, not %d, %d", c.word, c.f, c.n, w, e, c.want, c.err)
		}
	}
}

func TestAddAndTopEdges(t *testing.T) {
	f, wide := field.Field{At: 4, Bits: 4}, field.Field{At: 0, Bits: 32}
	for _, c := range []struct {
		word int
		f    field.Field
		by   int
		want int
		err  api.Errno
		top  int
	}{
		{0x51, f, 0, 0x51, api.OK, 0x51},
		{0x51, f, 3, 0x81, api.OK, 0x81},
		{0x51, f, 10, 0xf1, api.OK, 0xf1},
		{0x51, f, 11, 0, api.ErrOver, 0xf1},
		{0x51, f, -5, 0x01, api.OK, 0x01},
		{0x51, f, -6, 0, api.ErrOver, 0x01},
		{0x51, f, math.MaxInt, 0, api.ErrOver, 0xf1},
		{0x51, f, math.MinInt, 0, api.ErrOver, 0x01},
		{1<<32 - 1, wide, math.MaxInt, 0, api.ErrOver, 1<<32 - 1},
		{1<<32 - 1, wide, 1 - 1<<32, 0, api.OK, 0},
		{1<<32 - 1, wide, -1 << 32, 0, api.ErrOver, 0},
		{0, wide, math.MinInt, 0, api.ErrOver, 0},
		{-1, f, 1, 0, api.ErrArg, 0},
		{1 << 62, f, math.MaxInt, 0, api.ErrArg, 0},
		{0x51, field.Field{At: 59, Bits: 4}, 1, 0, api.ErrArg, 0},
		{0x51, field.Field{At: 4, Bits: 0}, math.MinInt, 0, api.ErrArg, 0},
	} {
		if w, e := field.Add(c.word, c.f, c.by); w != c.want || e != c.err {
			t.Errorf("P1.2: Add(%#x, %v, %d): %#x, %d, not %#x, %d", c.word, c.f, c.by, w, e, c.want, c.err)
		}
		if w := field.Top(c.word, c.f, c.by); w != c.top {
			t.Errorf("P1.2: Top(%#x, %v, %d): %#x, not %#x", c.word, c.f, c.by, w, c.top)
		}
	}
}

func TestCheckAndMostOfMany(t *testing.T) {
	for _, f := range someFields() {
		err, most := api.ErrArg, -1
		if fieldMay(f) {
			err, most = api.OK, wantMost(f)
		}
		if e := field.Check(f); e != err {
			t.Errorf("P1.1: Check(%v): %d, not %d", f, e, err)
		}
		if n := field.Most(f); n != most {
			t.Errorf("P1.1: Most(%v): %d, not %d", f, n, most)
		}
	}
}

func TestGetOfMany(t *testing.T) {
	for _, word := range someWords() {
		for _, f := range someFields() {
			if n, want := field.Get(word, f), wantGet(word, f); n != want {
				t.Errorf("P1.1: Get(%d, %v): %d, not %d", word, f, n, want)
			}
		}
	}
}

func TestChangesOfMany(t *testing.T) {
	for _, word := range someWords() {
		for _, f := range someFields() {
			for _, n := range someNumbers(word, f) {
				checkChanges(t, word, f, n)
			}
		}
	}
}

func checkChanges(t *testing.T, word int, f field.Field, n int) {
	t.Helper()
	want, err := wantPut(word, f, n)
	if w, e := field.Put(word, f, n); w != want || e != err {
		t.Errorf("P1.2: Put(%d, %v, %d): %d, %d, not %d, %d", word, f, n, w, e, want, err)
	}
	want, err = wantAdd(word, f, n)
	if w, e := field.Add(word, f, n); w != want || e != err {
		t.Errorf("P1.2: Add(%d, %v, %d): %d, %d, not %d, %d", word, f, n, w, e, want, err)
	}
	want = wantTop(word, f, n)
	if w := field.Top(word, f, n); w != want {
		t.Errorf("P1.2: Top(%d, %v, %d): %d, not %d", word, f, n, w, want)
	}
}

// TestWhatWasPutIsGot has no oracle: Put and Get are held against each other alone.
func TestWhatWasPutIsGot(t *testing.T) {
	for _, word := range someWords() {
		for _, f := range someFields() {
			for _, n := range someNumbers(word, f) {
				w, e := field.Put(word, f, n)
				if e != api.OK {
					continue
				}
				if got := field.Get(w, f); got != n {
					t.Errorf("P1.3: Put(%d, %v, %d), then Get: %d", word, f, n, got)
				}
				checkOthers(t, word, w, f)
			}
		}
	}
}

// checkOthers looks at each bit beside the field as a field of its own.
func checkOthers(t *testing.T, before int, after int, f field.Field) {
	t.Helper()
	for at := range 62 {
		bit := field.Field{At: at, Bits: 1}
		inside := at >= f.At && at < f.At+f.Bits
		if !inside && field.Get(before, bit) != field.Get(after, bit) {
			t.Errorf("P1.3: bit %d beside %v was changed: %d, then %d", at, f, before, after)
		}
	}
}
