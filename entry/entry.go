// Package entry is layer 2, what the table keeps of a handle, as one word: see shared/doc/02-entry.md.
package entry

import (
	"sidings/api"
	"sidings/field"
)

// Entry is where an object is, and what may be done with it.
type Entry struct {
	Offset int
	Gen    int
	Pins   int
	Guards int
	Lock   bool
	Live   bool
}

// fields stand in the order in which numbers and unpacked have them.
var fields = [6]field.Field{
	{At: 0, Bits: 20},
	{At: 20, Bits: 20},
	{At: 40, Bits: 4},
	{At: 44, Bits: 4},
	{At: 48, Bits: 1},
	{At: 49, Bits: 1},
}

// Pack tells an entry's word.
func Pack(e Entry) (int, api.Errno) {
	if !e.mayBe() {
		return 0, api.ErrArg
	}
	word := 0
	for i, n := range e.numbers() {
		// No error: whatever an entry that may be has, its field holds.
		word, _ = field.Put(word, fields[i], n)
	}
	return word, api.OK
}

// Unpack tells the entry of a word.
func Unpack(word int) (Entry, api.Errno) {
	e := unpacked(word)
	// Packed again, what no entry has (bits above, numbers that may not be) is found at once.
	if w, err := Pack(e); err != api.OK || w != word {
		return Entry{}, api.ErrForm
	}
	return e, api.OK
}

// Pin tells the word with a pin more.
func Pin(word int) (int, api.Errno) {
	return change(word, func(e *Entry) api.Errno {
		if e.Lock {
			return api.ErrArg
		}
		if e.Pins == api.MaxPins {
			return api.ErrPinOver
		}
		e.Pins++
		return api.OK
	})
}

// Unpin tells the word with a pin less.
func Unpin(word int) (int, api.Errno) {
	return change(word, func(e *Entry) api.Errno {
		if e.Pins == 0 {
			return api.ErrNotPinned
		}
		e.Pins--
		return api.OK
	})
}

// Guard tells the word with so many guards more, or less.
func Guard(word int, by int) (int, api.Errno) {
	return change(word, func(e *Entry) api.Errno {
		e.Guards += by
		return api.OK
	})
}

// Lock tells the word with the lock on, or off.
func Lock(word int, on bool) (int, api.Errno) {
	return change(word, func(e *Entry) api.Errno {
		e.Lock = on
		return api.OK
	})
}

// Move tells the word of the object elsewhere, where its move is over.
func Move(word int, offset int) (int, api.Errno) {
	return change(word, func(e *Entry) api.Errno {
		e.Offset = offset
		e.Lock = false
		return api.OK
	})
}

// Next tells the word behind a free, and whether its slot may be used again.
func Next(word int) (int, bool, api.Errno) {
	more := false
	next, err := change(word, func(e *Entry) api.Errno {
		if e.held() {
			return api.ErrArg
		}
		gen := e.Gen
		if gen < api.MaxGen {
			gen++
			more = true
		}
		*e = Entry{Gen: gen}
		return api.OK
	})
	return next, more, err
}

// change packs what turn makes of a live entry; Pack refuses what may not be.
func change(word int, turn func(e *Entry) api.Errno) (int, api.Errno) {
	e, err := Unpack(word)
	if err != api.OK {
		return 0, err
	}
	if !e.Live {
		return 0, api.ErrArg
	}
	err = turn(&e)
	if err != api.OK {
		return 0, err
	}
	return Pack(e)
}

func (e Entry) mayBe() bool {
	if !within(e.Gen, api.MaxGen) {
		return false
	}
	if !e.Live {
		return e == Entry{Gen: e.Gen}
	}
	if e.Lock && (e.Pins != 0 || e.Guards != 0) {
		return false
	}
	return within(e.Offset, api.MaxArena) && within(e.Pins, api.MaxPins) && within(e.Guards, api.MaxGuards)
}

func (e Entry) held() bool {
	return e.Pins > 0 || e.Guards > 0 || e.Lock
}

func (e Entry) numbers() [6]int {
	return [6]int{e.Offset, e.Gen, e.Pins, e.Guards, bit(e.Lock), bit(e.Live)}
}

func unpacked(word int) Entry {
	var n [6]int
	for i := range fields {
		n[i] = field.Get(word, fields[i])
	}
	return Entry{Offset: n[0], Gen: n[1], Pins: n[2], Guards: n[3], Lock: n[4] == 1, Live: n[5] == 1}
}

func within(n int, most int) bool {
	return n >= 0 && n <= most
}

func bit(b bool) int {
	if b {
		return 1
	}
	return 0
}
