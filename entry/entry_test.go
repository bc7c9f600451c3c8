package entry_test

import (
	"math"
	"testing"

	"sidings/api"
	"sidings/entry"
)

// change is one of the calls that tell a word behind a change.
type change struct {
	name string
	do   func(word int) (int, api.Errno)
	want func(e entry.Entry) (entry.Entry, api.Errno)
}

func flag(b bool) int {
	if b {
		return 1
	}
	return 0
}

// wordOf is an entry's word by sums alone: the tests' own way to say it.
func wordOf(e entry.Entry) int {
	return e.Offset + e.Gen*1048576 + e.Pins*1099511627776 + e.Guards*17592186044416 + flag(e.Lock)*281474976710656 + flag(e.Live)*562949953421312
}

func may(e entry.Entry) bool {
	switch {
	case e.Offset < 0, e.Offset > 4096, e.Gen < 0, e.Gen > 1000, e.Pins < 0, e.Pins > 7, e.Guards < 0, e.Guards > 15:
		return false
	case !e.Live && (e.Offset != 0 || e.Pins != 0 || e.Guards != 0 || e.Lock):
		return false
	case e.Lock && (e.Pins != 0 || e.Guards != 0):
		return false
	}
	return true
}

// someEntries are ones of all kinds; some of them may not be.
func someEntries() []entry.Entry {
	var l []entry.Entry
	for _, offset := range []int{math.MinInt, -1, 0, 1, 8, 4088, 4095, 4096, 4097, 1 << 20, math.MaxInt} {
		for _, gen := range []int{math.MinInt, -1, 0, 1, 999, 1000, 1001, 1 << 20, math.MaxInt} {
			for _, pins := range []int{-1, 0, 1, 6, 7, 8, 15, 16} {
				for _, guards := range []int{-1, 0, 1, 7, 8, 14, 15, 16} {
					for _, flags := range [][2]bool{{false, false}, {false, true}, {true, false}, {true, true}} {
						l = append(l, entry.Entry{Offset: offset, Gen: gen, Pins: pins, Guards: guards, Lock: flags[0], Live: flags[1]})
					}
				}
			}
		}
	}
	return l
}

// wrongWords are words of no entry.
func wrongWords() []int {
	live := 1 << 49
	return []int{
		math.MinInt, -1, math.MinInt + live, // below 0
		1 << 50, live + 1<<50, 1 << 61, live + 1<<61, 1 << 62, live + 1<<62, math.MaxInt, // bits above
		1, 8, 4096, 1 << 40, 1 << 44, 1 << 48, // not live, and yet something
		live + 4097, live + 1<<20 - 1, live + 1001<<20, 1001 << 20, live + (1<<20-1)<<20, live + 8<<40, live + 15<<40, // too much
		live + 1<<48 + 1<<40, live + 1<<48 + 1<<44, live + 1<<48 + 7<<40 + 15<<44, // locked, and held
	}
}

func changes() []change {
	l := []change{
		{"Pin", entry.Pin, func(e entry.Entry) (entry.Entry, api.Errno) {
			switch {
			case e.Lock:
				return entry.Entry{}, api.ErrArg
			case e.Pins == 7:
				return entry.Entry{}, api.ErrPinOver
			}
			e.Pins++
			return e, api.OK
		}},
		{"Unpin", entry.Unpin, func(e entry.Entry) (entry.Entry, api.Errno) {
			if e.Pins == 0 {
				return entry.Entry{}, api.ErrNotPinned
			}
			e.Pins--
			return e, api.OK
		}},
	}
	for _, by := range []int{math.MinInt, -1 << 62, -16, -15, -14, -1, 0, 1, 2, 7, 8, 14, 15, 16, 1 << 32, 1 << 62, math.MaxInt} {
		l = append(l, change{"Guard", guardBy(by), func(e entry.Entry) (entry.Entry, api.Errno) {
			e.Guards += by
			return ifMay(e)
		}})
	}
	for _, on := range []bool{false, true} {
		l = append(l, change{"Lock", lockTo(on), func(e entry.Entry) (entry.Entry, api.Errno) {
			e.Lock = on
			return ifMay(e)
		}})
	}
	for _, offset := range []int{math.MinInt, -1, 0, 1, 8, 4095, 4096, 4097, 1 << 20, 1 << 40, math.MaxInt} {
		l = append(l, change{"Move", moveTo(offset), func(e entry.Entry) (entry.Entry, api.Errno) {
			e.Offset, e.Lock = offset, false
			return ifMay(e)
		}})
	}
	return l
}

func ifMay(e entry.Entry) (entry.Entry, api.Errno) {
	if !may(e) {
		return entry.Entry{}, api.ErrArg
	}
	return e, api.OK
}

func mustPack(t *testing.T, e entry.Entry) int {
	t.Helper()
	word, err := entry.Pack(e)
	if err != api.OK {
		t.Fatalf("P2.1: Pack(%+v): %d", e, err)
	}
	return word
}

func TestPackEdges(t *testing.T) {
	for _, c := range []struct {
		e    entry.Entry
		want int
		err  api.Errno
	}{
		{entry.Entry{}, 0, api.OK},
		{entry.Entry{Gen: 1, Live: true}, 1<<20 + 1<<49, api.OK},
		{entry.Entry{Gen: 1000}, 1000 << 20, api.OK},
		{entry.Entry{Offset: 4096, Gen: 1000, Pins: 7, Guards: 15, Live: true}, 4096 + 1000<<20 + 7<<40 + 15<<44 + 1<<49, api.OK},
		{entry.Entry{Offset: 4096, Gen: 1000, Lock: true, Live: true}, 4096 + 1000<<20 + 1<<48 + 1<<49, api.OK},
		{entry.Entry{Offset: 4097, Live: true}, 0, api.ErrArg},
		{entry.Entry{Offset: -1, Live: true}, 0, api.ErrArg},
		{entry.Entry{Gen: 1001, Live: true}, 0, api.ErrArg},
		{entry.Entry{Gen: 1001}, 0, api.ErrArg},
		{entry.Entry{Gen: -1}, 0, api.ErrArg},
		{entry.Entry{Pins: 8, Live: true}, 0, api.ErrArg},
		{entry.Entry{Pins: -1, Live: true}, 0, api.ErrArg},
		{entry.Entry{Guards: 16, Live: true}, 0, api.ErrArg},
		{entry.Entry{Guards: -1, Live: true}, 0, api.ErrArg},
		{entry.Entry{Offset: 8}, 0, api.ErrArg},
		{entry.Entry{Pins: 1}, 0, api.ErrArg},
		{entry.Entry{Guards: 1}, 0, api.ErrArg},
		{entry.Entry{Lock: true}, 0, api.ErrArg},
		{entry.Entry{Pins: 1, Lock: true, Live: true}, 0, api.ErrArg},
		{entry.Entry{Guards: 1, Lock: true, Live: true}, 0, api.ErrArg},
	} {
		if w, err := entry.Pack(c.e); w != c.want || err != c.err {
			t.Errorf("P2.1: Pack(%+v): %d, %d, not %d, %d", c.e, w, err, c.want, c.err)
		}
	}
}

func TestPackAndUnpackOfMany(t *testing.T) {
	for _, e := range someEntries() {
		w, err := entry.Pack(e)
		if !may(e) {
			if w != 0 || err != api.ErrArg {
				t.Errorf("P2.1: Pack(%+v): %d, %d, not 0, ErrArg", e, w, err)
			}
			continue
		}
		if w != wordOf(e) || err != api.OK {
			t.Errorf("P2.1: Pack(%+v): %d, %d, not %d, OK", e, w, err, wordOf(e))
		}
		if got, err := entry.Unpack(wordOf(e)); got != e || err != api.OK {
			t.Errorf("P2.1: Unpack(%d): %+v, %d, not %+v, OK", wordOf(e), got, err, e)
		}
	}
}

func TestUnpackOfWrongWords(t *testing.T) {
	for _, word := range wrongWords() {
		if e, err := entry.Unpack(word); e != (entry.Entry{}) || err != api.ErrForm {
			t.Errorf("P2.1: Unpack(%d): %+v, %d, not ErrForm", word, e, err)
		}
	}
}

// TestUnpackOfEachBit asks words one bit away from those of entries: most of them are none.
func TestUnpackOfEachBit(t *testing.T) {
	for _, e := range someEntries() {
		if !may(e) {
			continue
		}
		for at := range 64 {
			word := wordOf(e) ^ 1<<at
			got, err := entry.Unpack(word)
			if err == api.OK && (!may(got) || wordOf(got) != word) {
				t.Errorf("P2.1: Unpack(%d): %+v, whose word that is not", word, got)
			}
			if err != api.OK && (err != api.ErrForm || got != (entry.Entry{}) || hasEntry(word)) {
				t.Errorf("P2.1: Unpack(%d): %+v, %d", word, got, err)
			}
		}
	}
}

// hasEntry tells by division whether a word is an entry's.
func hasEntry(word int) bool {
	if word < 0 || word >= 1<<50 {
		return false
	}
	return may(entry.Entry{
		Offset: word % 1048576,
		Gen:    word / 1048576 % 1048576,
		Pins:   word / 1099511627776 % 16,
		Guards: word / 17592186044416 % 16,
		Lock:   word/281474976710656%2 == 1,
		Live:   word/562949953421312 == 1,
	})
}

func TestChangesEdges(t *testing.T) {
	plain := entry.Entry{Offset: 64, Gen: 5, Live: true}
	pinned := entry.Entry{Offset: 64, Gen: 5, Pins: 7, Live: true}
	full := entry.Entry{Offset: 4096, Gen: 1000, Pins: 7, Guards: 15, Live: true}
	locked := entry.Entry{Offset: 64, Gen: 5, Lock: true, Live: true}
	dead := entry.Entry{Gen: 5}
	with := func(e entry.Entry, turn func(e *entry.Entry)) int {
		turn(&e)
		return wordOf(e)
	}
	for i, c := range []struct {
		e    entry.Entry
		do   func(word int) (int, api.Errno)
		want int
		err  api.Errno
	}{
		{plain, entry.Pin, with(plain, func(e *entry.Entry) { e.Pins = 1 }), api.OK},
		{pinned, entry.Pin, 0, api.ErrPinOver},
		{full, entry.Pin, 0, api.ErrPinOver},
		{locked, entry.Pin, 0, api.ErrArg},
		{dead, entry.Pin, 0, api.ErrArg},
		{full, entry.Unpin, with(full, func(e *entry.Entry) { e.Pins = 6 }), api.OK},
		{plain, entry.Unpin, 0, api.ErrNotPinned},
		{locked, entry.Unpin, 0, api.ErrNotPinned},
		{dead, entry.Unpin, 0, api.ErrArg},
		{plain, guardBy(15), with(plain, func(e *entry.Entry) { e.Guards = 15 }), api.OK},
		{plain, guardBy(16), 0, api.ErrArg},
		{plain, guardBy(-1), 0, api.ErrArg},
		{full, guardBy(-15), with(full, func(e *entry.Entry) { e.Guards = 0 }), api.OK},
		{full, guardBy(1), 0, api.ErrArg},
		{full, guardBy(math.MaxInt), 0, api.ErrArg},
		{full, guardBy(math.MinInt), 0, api.ErrArg},
		{locked, guardBy(0), wordOf(locked), api.OK},
		{locked, guardBy(1), 0, api.ErrArg},
		{dead, guardBy(0), 0, api.ErrArg},
		{plain, lockTo(true), wordOf(locked), api.OK},
		{locked, lockTo(true), wordOf(locked), api.OK},
		{locked, lockTo(false), wordOf(plain), api.OK},
		{full, lockTo(false), wordOf(full), api.OK},
		{pinned, lockTo(true), 0, api.ErrArg},
		{dead, lockTo(false), 0, api.ErrArg},
		{locked, moveTo(8), with(plain, func(e *entry.Entry) { e.Offset = 8 }), api.OK},
		{locked, moveTo(4096), with(plain, func(e *entry.Entry) { e.Offset = 4096 }), api.OK},
		{full, moveTo(0), with(full, func(e *entry.Entry) { e.Offset = 0 }), api.OK},
		{locked, moveTo(4097), 0, api.ErrArg},
		{locked, moveTo(-1), 0, api.ErrArg},
		{dead, moveTo(0), 0, api.ErrArg},
	} {
		if w, err := c.do(wordOf(c.e)); w != c.want || err != c.err {
			t.Errorf("P2.2: case %d: %d, %d, not %d, %d", i, w, err, c.want, c.err)
		}
	}
}

func guardBy(by int) func(word int) (int, api.Errno) {
	return func(word int) (int, api.Errno) { return entry.Guard(word, by) }
}

func lockTo(on bool) func(word int) (int, api.Errno) {
	return func(word int) (int, api.Errno) { return entry.Lock(word, on) }
}

func moveTo(offset int) func(word int) (int, api.Errno) {
	return func(word int) (int, api.Errno) { return entry.Move(word, offset) }
}

func TestChangesOfMany(t *testing.T) {
	for _, e := range someEntries() {
		if !may(e) {
			continue
		}
		for i, c := range changes() {
			want, err := entry.Entry{}, api.ErrArg
			if e.Live {
				want, err = c.want(e)
			}
			if w, f := c.do(wordOf(e)); w != wordOf(want) || f != err {
				t.Errorf("P2.2: %s (%d) of %+v: %d, %d, not %d, %d", c.name, i, e, w, f, wordOf(want), err)
			}
		}
	}
}

func TestChangesOfWrongWords(t *testing.T) {
	for _, word := range wrongWords() {
		for i, c := range changes() {
			if w, err := c.do(word); w != 0 || err != api.ErrForm {
				t.Errorf("P2.2: %s (%d) of %d: %d, %d, not 0, ErrForm", c.name, i, word, w, err)
			}
		}
	}
}

func TestNextEdges(t *testing.T) {
	for _, c := range []struct {
		word int
		want int
		more bool
		err  api.Errno
	}{
		{wordOf(entry.Entry{Live: true}), 1 << 20, true, api.OK},
		{wordOf(entry.Entry{Offset: 4096, Gen: 5, Live: true}), 6 << 20, true, api.OK},
		{wordOf(entry.Entry{Offset: 8, Gen: 999, Live: true}), 1000 << 20, true, api.OK},
		{wordOf(entry.Entry{Offset: 8, Gen: 1000, Live: true}), 1000 << 20, false, api.OK},
		{wordOf(entry.Entry{Pins: 1, Live: true}), 0, false, api.ErrArg},
		{wordOf(entry.Entry{Guards: 1, Live: true}), 0, false, api.ErrArg},
		{wordOf(entry.Entry{Lock: true, Live: true}), 0, false, api.ErrArg},
		{wordOf(entry.Entry{Gen: 1000, Lock: true, Live: true}), 0, false, api.ErrArg},
		{wordOf(entry.Entry{Gen: 1000}), 0, false, api.ErrArg},
		{0, 0, false, api.ErrArg},
		{-1, 0, false, api.ErrForm},
		{1 << 50, 0, false, api.ErrForm},
	} {
		if w, more, err := entry.Next(c.word); w != c.want || more != c.more || err != c.err {
			t.Errorf("P2.3: Next(%d): %d, %v, %d, not %d, %v, %d", c.word, w, more, err, c.want, c.more, c.err)
		}
	}
}

func TestNextOfMany(t *testing.T) {
	for _, e := range someEntries() {
		if !may(e) {
			continue
		}
		want, wantMore, wantErr := 0, false, api.ErrArg
		if e.Live && e.Pins == 0 && e.Guards == 0 && !e.Lock {
			want, wantMore, wantErr = (e.Gen+1)*1048576, true, api.OK
			if e.Gen == 1000 {
				want, wantMore = 1000*1048576, false
			}
		}
		if w, more, err := entry.Next(wordOf(e)); w != want || more != wantMore || err != wantErr {
			t.Errorf("P2.3: Next of %+v: %d, %v, %d, not %d, %v, %d", e, w, more, err, want, wantMore, wantErr)
		}
	}
	for _, word := range wrongWords() {
		if w, more, err := entry.Next(word); w != 0 || more || err != api.ErrForm {
			t.Errorf("P2.3: Next(%d): %d, %v, %d, not ErrForm", word, w, more, err)
		}
	}
}

// TestWordsAreTheirEntriesOwn has no oracle: words are held against each other alone.
func TestWordsAreTheirEntriesOwn(t *testing.T) {
	of := map[int]entry.Entry{}
	for _, e := range someEntries() {
		word, err := entry.Pack(e)
		if err != api.OK {
			continue
		}
		if other, ok := of[word]; ok && other != e {
			t.Errorf("P2.4: %d is the word of %+v and of %+v", word, other, e)
		}
		of[word] = e
		if back, err := entry.Unpack(word); back != e || err != api.OK {
			t.Errorf("P2.4: Pack(%+v), then Unpack: %+v, %d", e, back, err)
		}
	}
	if len(of) == 0 {
		t.Error("P2.4: no entry has a word")
	}
}

// TestChangesComeBack goes there and back: what one call did another one undoes.
func TestChangesComeBack(t *testing.T) {
	word := mustPack(t, entry.Entry{Offset: 64, Gen: 5, Pins: 3, Guards: 4, Live: true})
	free := mustPack(t, entry.Entry{Offset: 64, Gen: 5, Live: true})
	for _, c := range []struct {
		name        string
		word        int
		there, back func(word int) (int, api.Errno)
	}{
		{"Pin, Unpin", word, entry.Pin, entry.Unpin},
		{"Guard 11, Guard -11", word, guardBy(11), guardBy(-11)},
		{"Lock on, off", free, lockTo(true), lockTo(false)},
		{"Lock, Move", free, lockTo(true), moveTo(64)},
	} {
		there, err := c.there(c.word)
		if err != api.OK || there == c.word {
			t.Errorf("P2.4: %s: there: %d, %d", c.name, there, err)
		}
		if back, err := c.back(there); back != c.word || err != api.OK {
			t.Errorf("P2.4: %s: back: %d, %d, not %d", c.name, back, err, c.word)
		}
	}
}
