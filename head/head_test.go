package head_test

import (
	"math"
	"testing"

	"sidings/api"
	"sidings/head"
)

const lastTag = 4294967295

// wordOf is a head's word by sums alone: the tests' own way to say it.
func wordOf(top int, tag int) int {
	return top + tag*1048576
}

func topMay(top int) bool   { return top >= 0 && top <= 64 }
func slotMay(slot int) bool { return slot >= 0 && slot <= 63 }
func tagMay(tag int) bool   { return tag >= 0 && tag <= lastTag }

func tagBehind(tag int) int {
	return (tag + 1) % (lastTag + 1)
}

// someNumbers are tops, slots, links and tags; some of them may not be.
func someNumbers() []int {
	return []int{
		math.MinInt, math.MinInt + 1, -1 << 52, -1 << 32, -1 << 20, -65, -64, -1,
		0, 1, 2, 3, 31, 32, 62, 63, 64,
		65, 127, 128, 1<<20 - 1, 1 << 20, 1<<20 + 1, 1<<24 + 1, 1 << 31, 1<<32 - 2,
		1<<32 - 1, 1 << 32, 1<<32 + 1, 1 << 40, 1 << 44, 1 << 52, 1<<53 + 1, 1 << 62, math.MaxInt - 1, math.MaxInt,
	}
}

// someTags are ones that floats of fewer bits would round, among others.
func someTags() []int {
	return []int{0, 1, 2, 63, 64, 1 << 20, 1<<24 - 1, 1 << 24, 1<<24 + 1, 1<<31 - 1, 1 << 31, 1<<31 + 1, 3141592653, lastTag - 2, lastTag - 1, lastTag}
}

// wrongWords are words of no head.
func wrongWords() []int {
	return []int{
		math.MinInt, math.MinInt + 1, math.MinInt + wordOf(3, 2), -wordOf(3, 2), -1 << 20, -64, -1, // below 0
		65, 127, 128, 1<<20 - 1, wordOf(65, 2), wordOf(1<<20-1, lastTag), // no top
		1 << 52, 1<<52 + 64, wordOf(3, 2) + 1<<52, wordOf(64, lastTag) + 1<<52, wordOf(3, 2) + 1<<61, // bits above
		1 << 62, wordOf(3, 2) + 1<<62, math.MaxInt - 1, math.MaxInt,
	}
}

func TestPackEdges(t *testing.T) {
	for _, c := range []struct {
		top, tag int
		want     int
		err      api.Errno
	}{
		{3, 2, 2097155, api.OK},
		{0, 0, 0, api.OK},
		{64, 0, 64, api.OK},
		{0, 1, 1048576, api.OK},
		{0, lastTag, 4503599626321920, api.OK},
		{64, lastTag, 4503599626321984, api.OK},
		{65, 0, 0, api.ErrArg},
		{-1, 0, 0, api.ErrArg},
		{0, -1, 0, api.ErrArg},
		{0, lastTag + 1, 0, api.ErrArg},
		{65, lastTag + 1, 0, api.ErrArg},
		{1 << 20, 0, 0, api.ErrArg},
		{math.MinInt, math.MaxInt, 0, api.ErrArg},
	} {
		if w, err := head.Pack(c.top, c.tag); w != c.want || err != c.err {
			t.Errorf("P4.1: Pack(%d, %d): %d, %d, not %d, %d", c.top, c.tag, w, err, c.want, c.err)
		}
	}
}

func TestPackOfMany(t *testing.T) {
	for _, top := range someNumbers() {
		for _, tag := range append(someNumbers(), someTags()...) {
			want, wantErr := 0, api.ErrArg
			if topMay(top) && tagMay(tag) {
				want, wantErr = wordOf(top, tag), api.OK
			}
			if w, err := head.Pack(top, tag); w != want || err != wantErr {
				t.Errorf("P4.1: Pack(%d, %d): %d, %d, not %d, %d", top, tag, w, err, want, wantErr)
			}
		}
	}
}

func TestUnpackOfMany(t *testing.T) {
	for top := range 65 {
		for _, tag := range someTags() {
			word := wordOf(top, tag)
			if gotTop, gotTag, err := head.Unpack(word); gotTop != top || gotTag != tag || err != api.OK {
				t.Errorf("P4.1: Unpack(%d): %d, %d, %d, not %d, %d, OK", word, gotTop, gotTag, err, top, tag)
			}
		}
	}
	for _, word := range wrongWords() {
		if top, tag, err := head.Unpack(word); top != 0 || tag != 0 || err != api.ErrForm {
			t.Errorf("P4.1: Unpack(%d): %d, %d, %d, not 0, 0, ErrForm", word, top, tag, err)
		}
	}
}

// TestUnpackOfEachBit asks words one bit away from those of heads: some of them are none.
func TestUnpackOfEachBit(t *testing.T) {
	for _, top := range []int{0, 1, 32, 63, 64} {
		for _, tag := range someTags() {
			for at := range 64 {
				word := wordOf(top, tag) ^ 1<<at
				wantTop, wantTag, wantErr := unpackBySums(word)
				if gotTop, gotTag, err := head.Unpack(word); gotTop != wantTop || gotTag != wantTag || err != wantErr {
					t.Errorf("P4.1: Unpack(%d): %d, %d, %d, not %d, %d, %d", word, gotTop, gotTag, err, wantTop, wantTag, wantErr)
				}
			}
		}
	}
}

func unpackBySums(word int) (int, int, api.Errno) {
	if word < 0 || word > wordOf(64, lastTag) || word%1048576 > 64 {
		return 0, 0, api.ErrForm
	}
	return word % 1048576, word / 1048576, api.OK
}

func TestPopEdges(t *testing.T) {
	for _, c := range []struct {
		word, link int
		want, slot int
		err        api.Errno
	}{
		{wordOf(3, 2), 5, wordOf(5, 3), 2, api.OK},
		{wordOf(1, 0), 0, wordOf(0, 1), 0, api.OK},
		{wordOf(64, 7), 64, wordOf(64, 8), 63, api.OK},
		{wordOf(3, lastTag-1), 5, wordOf(5, lastTag), 2, api.OK},
		{wordOf(3, lastTag), 5, wordOf(5, 0), 2, api.OK},
		{wordOf(0, 2), 5, 0, 0, api.ErrSlots},
		{wordOf(0, lastTag), 0, 0, 0, api.ErrSlots},
		{wordOf(3, 2), 65, 0, 0, api.ErrArg},
		{wordOf(3, 2), -1, 0, 0, api.ErrArg},
		{wordOf(0, 2), 65, 0, 0, api.ErrArg},
		{wordOf(65, 2), 5, 0, 0, api.ErrForm},
		{wordOf(65, 2), -1, 0, 0, api.ErrForm},
		{-1, 65, 0, 0, api.ErrForm},
		{1 << 52, 0, 0, 0, api.ErrForm},
	} {
		if w, slot, err := head.Pop(c.word, c.link); w != c.want || slot != c.slot || err != c.err {
			t.Errorf("P4.2: Pop(%d, %d): %d, %d, %d, not %d, %d, %d", c.word, c.link, w, slot, err, c.want, c.slot, c.err)
		}
	}
}

func TestPushEdges(t *testing.T) {
	for _, c := range []struct {
		word, slot int
		want, link int
		err        api.Errno
	}{
		{wordOf(3, 2), 4, wordOf(5, 3), 3, api.OK},
		{wordOf(0, 0), 0, wordOf(1, 1), 0, api.OK},
		{wordOf(64, 7), 63, wordOf(64, 8), 64, api.OK},
		{wordOf(3, lastTag-1), 4, wordOf(5, lastTag), 3, api.OK},
		{wordOf(3, lastTag), 4, wordOf(5, 0), 3, api.OK},
		{wordOf(3, 2), 64, 0, 0, api.ErrArg},
		{wordOf(3, 2), -1, 0, 0, api.ErrArg},
		{wordOf(3, 2), math.MaxInt, 0, 0, api.ErrArg},
		{wordOf(65, 2), 4, 0, 0, api.ErrForm},
		{wordOf(65, 2), 64, 0, 0, api.ErrForm},
		{-1, -1, 0, 0, api.ErrForm},
		{1 << 52, 0, 0, 0, api.ErrForm},
	} {
		if w, link, err := head.Push(c.word, c.slot); w != c.want || link != c.link || err != c.err {
			t.Errorf("P4.2: Push(%d, %d): %d, %d, %d, not %d, %d, %d", c.word, c.slot, w, link, err, c.want, c.link, c.err)
		}
	}
}

func TestPopAndPushOfMany(t *testing.T) {
	for top := range 65 {
		for _, tag := range someTags() {
			for _, n := range someNumbers() {
				checkPop(t, top, tag, n)
				checkPush(t, top, tag, n)
			}
		}
	}
}

func checkPop(t *testing.T, top int, tag int, link int) {
	t.Helper()
	want, wantSlot, wantErr := 0, 0, api.OK
	switch {
	case !topMay(link):
		wantErr = api.ErrArg
	case top == 0:
		wantErr = api.ErrSlots
	default:
		want, wantSlot = wordOf(link, tagBehind(tag)), top-1
	}
	if w, slot, err := head.Pop(wordOf(top, tag), link); w != want || slot != wantSlot || err != wantErr {
		t.Errorf("P4.2: Pop of %d, %d, and %d: %d, %d, %d, not %d, %d, %d", top, tag, link, w, slot, err, want, wantSlot, wantErr)
	}
}

func checkPush(t *testing.T, top int, tag int, slot int) {
	t.Helper()
	want, wantLink, wantErr := 0, 0, api.ErrArg
	if slotMay(slot) {
		want, wantLink, wantErr = wordOf(slot+1, tagBehind(tag)), top, api.OK
	}
	if w, link, err := head.Push(wordOf(top, tag), slot); w != want || link != wantLink || err != wantErr {
		t.Errorf("P4.2: Push of %d, %d, and %d: %d, %d, %d, not %d, %d, %d", top, tag, slot, w, link, err, want, wantLink, wantErr)
	}
}

func TestPopAndPushOfWrongWords(t *testing.T) {
	for _, word := range wrongWords() {
		for _, n := range someNumbers() {
			if w, slot, err := head.Pop(word, n); w != 0 || slot != 0 || err != api.ErrForm {
				t.Errorf("P4.2: Pop(%d, %d): %d, %d, %d, not 0, 0, ErrForm", word, n, w, slot, err)
			}
			if w, link, err := head.Push(word, n); w != 0 || link != 0 || err != api.ErrForm {
				t.Errorf("P4.2: Push(%d, %d): %d, %d, %d, not 0, 0, ErrForm", word, n, w, link, err)
			}
		}
	}
}

func TestInsideEdges(t *testing.T) {
	for _, c := range []struct {
		note   int
		epoch  int
		inside bool
	}{
		{0, 0, false},
		{1, 0, true},
		{2, 1, true},
		{8, 7, true},
		{1 << 62, 1<<62 - 1, true},
		{math.MaxInt, math.MaxInt - 1, true},
		{-1, 0, false},
		{-8, 0, false},
		{math.MinInt, 0, false},
	} {
		if epoch, inside := head.Inside(c.note); epoch != c.epoch || inside != c.inside {
			t.Errorf("P4.3: Inside(%d): %d, %v, not %d, %v", c.note, epoch, inside, c.epoch, c.inside)
		}
	}
}

func TestOlderEdges(t *testing.T) {
	for _, c := range []struct {
		note, epoch int
		want        bool
	}{
		{8, 7, false}, // its own epoch is 7
		{8, 8, true},
		{8, 6, false},
		{8, 9, true},
		{1, 0, false},
		{1, 1, true},
		{1, -1, false},
		{1, math.MinInt, false},
		{1, math.MaxInt, true},
		{0, 0, false},
		{0, 1, false},
		{0, math.MaxInt, false},
		{-1, 0, false},
		{-1, 5, false},
		{math.MinInt, 5, false},
		{math.MinInt, math.MaxInt, false},
		{math.MaxInt, math.MaxInt, true},
		{math.MaxInt, math.MaxInt - 1, false},
		{math.MaxInt, math.MinInt, false},
	} {
		if older := head.Older(c.note, c.epoch); older != c.want {
			t.Errorf("P4.3: Older(%d, %d): %v", c.note, c.epoch, older)
		}
	}
}

func TestInsideAndOlderOfMany(t *testing.T) {
	for _, came := range []int{0, 1, 2, 100, 1 << 32, 1<<53 + 1, math.MaxInt - 1} {
		note := came + 1
		if epoch, inside := head.Inside(note); epoch != came || !inside {
			t.Errorf("P4.3: Inside(%d): %d, %v", note, epoch, inside)
		}
		for _, epoch := range append(someNumbers(), came-1, came, came+1) {
			if older := head.Older(note, epoch); older != (epoch > came) {
				t.Errorf("P4.3: Older(%d, %d): %v", note, epoch, older)
			}
		}
	}
}

// TestPushedIsPopped keeps links as a table would, from tags on that go around on the way.
func TestPushedIsPopped(t *testing.T) {
	for _, tag := range []int{0, 1 << 24, lastTag - 32, lastTag} {
		first, _ := head.Pack(0, tag)
		word := first
		var links [64]int
		for i := range 64 {
			slot := (i*13 + 5) % 64
			next, link, err := head.Push(word, slot)
			if err != api.OK {
				t.Fatalf("P4.4: Push(%d, %d): %d", word, slot, err)
			}
			links[slot], word = link, next
		}
		for i := 63; i >= 0; i-- {
			want := (i*13 + 5) % 64
			next, slot, err := head.Pop(word, links[want])
			if err != api.OK || slot != want {
				t.Fatalf("P4.4: Pop(%d, %d): %d, %d, not slot %d", word, links[want], slot, err, want)
			}
			word = next
		}
		if _, _, err := head.Pop(word, 0); err != api.ErrSlots {
			t.Errorf("P4.4: behind the last pop: %d, not ErrSlots", err)
		}
	}
}

// TestNoHeadComesAgain takes and gives one slot, over and over: the tag alone tells those heads apart.
func TestNoHeadComesAgain(t *testing.T) {
	word, _ := head.Pack(7, lastTag-5000)
	seen := map[int]bool{}
	for i := range 5000 {
		popped, slot, err := head.Pop(word, 0)
		if err != api.OK || slot != 6 || seen[word] || seen[popped] {
			t.Fatalf("P4.4: step %d: Pop of %d: %d, %d, %d", i, word, popped, slot, err)
		}
		seen[word], seen[popped] = true, true
		word, _, err = head.Push(popped, 6)
		if err != api.OK {
			t.Fatalf("P4.4: step %d: Push of %d: %d", i, popped, err)
		}
	}
}
