// Package field is layer 1, fields of bits in a number: see shared/doc/01-field.md.
package field

import "sidings/api"

const (
	wordBits = 62
	mostBits = 32
	mostWord = 1<<wordBits - 1
)

// Field is so many bits of a number, from a bit on.
type Field struct {
	At   int
	Bits int
}

// Check tells whether a field may be.
func Check(f Field) api.Errno {
	if !f.mayBe() {
		return api.ErrArg
	}
	return api.OK
}

// Most tells the greatest number that a field holds.
func Most(f Field) int {
	if !f.mayBe() {
		return -1
	}
	return f.most()
}

// Get tells the number that a word's field holds.
func Get(word int, f Field) int {
	if !isWord(word) || !f.mayBe() {
		return 0
	}
	return f.get(word)
}

// Put tells a word with n in its field.
func Put(word int, f Field, n int) (int, api.Errno) {
	return change(word, f, n, Field.put)
}

// Add tells a word with by more in its field.
func Add(word int, f Field, by int) (int, api.Errno) {
	return change(word, f, by, Field.add)
}

// Top is Add that stops at what the field can hold.
func Top(word int, f Field, by int) int {
	w, _ := change(word, f, by, Field.top)
	return w
}

// change keeps words and fields that may not be from the methods, which shift unguarded.
func change(word int, f Field, n int, do func(f Field, word int, n int) (int, api.Errno)) (int, api.Errno) {
	if !isWord(word) || !f.mayBe() {
		return 0, api.ErrArg
	}
	return do(f, word, n)
}

func isWord(word int) bool {
	return word >= 0 && word <= mostWord
}

// mayBe takes Bits from the word's, because At and Bits together might pass 64 bits.
func (f Field) mayBe() bool {
	return f.Bits >= 1 && f.Bits <= mostBits && f.At >= 0 && f.At <= wordBits-f.Bits
}

func (f Field) most() int {
	return 1<<f.Bits - 1
}

func (f Field) get(word int) int {
	return word >> f.At & f.most()
}

func (f Field) put(word int, n int) (int, api.Errno) {
	if n < 0 {
		return 0, api.ErrArg
	}
	if n > f.most() {
		return 0, api.ErrOver
	}
	others := word &^ (f.most() << f.At)
	return others | n<<f.At, api.OK
}

// below and above hold by against what room there is, because the sum itself might pass 64 bits.
func (f Field) below(word int, by int) bool {
	return by < -f.get(word)
}

func (f Field) above(word int, by int) bool {
	return by > f.most()-f.get(word)
}

func (f Field) add(word int, by int) (int, api.Errno) {
	if f.below(word, by) || f.above(word, by) {
		return 0, api.ErrOver
	}
	return f.put(word, f.get(word)+by)
}

func (f Field) top(word int, by int) (int, api.Errno) {
	switch {
	case f.below(word, by):
		return f.put(word, 0)
	case f.above(word, by):
		return f.put(word, f.most())
	}
	return f.put(word, f.get(word)+by)
}
