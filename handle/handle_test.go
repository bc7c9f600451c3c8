package handle_test

import (
	"math"
	"testing"

	"sidings/api"
	"sidings/handle"
)

// handleOf is a handle by sums alone: the tests' own way to say it.
func handleOf(slot int, gen int) int {
	return slot + gen*1048576 + 1099511627776
}

func may(slot int, gen int) bool {
	return slot >= 0 && slot <= 63 && gen >= 0 && gen <= 1000
}

func someSlots() []int {
	return []int{
		math.MinInt, math.MinInt + 1, -1 << 40, -1 << 20, -64, -63, -1,
		0, 1, 2, 31, 32, 62, 63,
		64, 65, 127, 128, 1000, 1<<20 - 1, 1 << 20, 1<<20 + 1, 1 << 40, 1 << 62, math.MaxInt - 1, math.MaxInt,
	}
}

func someGens() []int {
	return []int{
		math.MinInt, math.MinInt + 1, -1 << 43, -1 << 20, -1001, -1000, -1,
		0, 1, 2, 63, 64, 500, 511, 512, 999, 1000,
		1001, 1023, 1024, 1<<20 - 1, 1 << 20, 1<<20 + 1, 1 << 40, 1 << 43, 1 << 44, 1 << 62, math.MaxInt - 1, math.MaxInt,
	}
}

// noHandles are numbers that no slot and no generation have.
func noHandles() []int {
	mark := handleOf(0, 0)
	return []int{
		math.MinInt, math.MinInt + 1, math.MinInt + mark, -handleOf(63, 1000), -mark - 1, -mark, mark + math.MinInt + 63, -1, // below 0
		0, 1, 5, 63, 1 << 20, 1000 << 20, mark - 1, // without what all have
		mark + 64, mark + 127, mark + 128, mark + 1<<20 - 1, handleOf(64, 1000), // no slot
		handleOf(0, 1001), handleOf(63, 1001), handleOf(0, 1024), handleOf(0, 1<<20-1), // no generation
		2 * mark, 2*mark + 63, 3 * mark, mark + 1<<41, mark + 1<<61, mark + 1<<62, handleOf(63, 1000) + 1<<50, // bits above
		1 << 62, math.MaxInt - 1, math.MaxInt,
	}
}

func TestMakeEdges(t *testing.T) {
	for _, c := range []struct {
		slot, gen int
		want      int
		err       api.Errno
	}{
		{0, 0, 1099511627776, api.OK},
		{63, 0, 1099511627839, api.OK},
		{0, 1, 1099512676352, api.OK},
		{0, 1000, 1100560203776, api.OK},
		{63, 1000, 1100560203839, api.OK},
		{5, 7, 1099518967813, api.OK},
		{64, 0, 0, api.ErrArg},
		{-1, 0, 0, api.ErrArg},
		{0, 1001, 0, api.ErrArg},
		{0, -1, 0, api.ErrArg},
		{-1, -1, 0, api.ErrArg},
		{64, 1001, 0, api.ErrArg},
		{1 << 20, 0, 0, api.ErrArg},
		{math.MinInt, math.MaxInt, 0, api.ErrArg},
		{0, 1 << 44, 0, api.ErrArg},
		{0, math.MinInt, 0, api.ErrArg},
	} {
		if h, err := handle.Make(c.slot, c.gen); h != c.want || err != c.err {
			t.Errorf("P3.1: Make(%d, %d): %d, %d, not %d, %d", c.slot, c.gen, h, err, c.want, c.err)
		}
	}
}

func TestMakeOfMany(t *testing.T) {
	for _, slot := range someSlots() {
		for _, gen := range someGens() {
			want, wantErr := 0, api.ErrArg
			if may(slot, gen) {
				want, wantErr = handleOf(slot, gen), api.OK
			}
			if h, err := handle.Make(slot, gen); h != want || err != wantErr {
				t.Errorf("P3.1: Make(%d, %d): %d, %d, not %d, %d", slot, gen, h, err, want, wantErr)
			}
		}
	}
}

func TestSplitOfEach(t *testing.T) {
	for slot := range 64 {
		for gen := range 1001 {
			h := handleOf(slot, gen)
			if s, g, ok := handle.Split(h); s != slot || g != gen || !ok {
				t.Errorf("P3.1: Split(%d): %d, %d, %v, not %d, %d, true", h, s, g, ok, slot, gen)
			}
		}
	}
}

func TestSplitOfNoHandles(t *testing.T) {
	for _, h := range noHandles() {
		if s, g, ok := handle.Split(h); s != 0 || g != 0 || ok {
			t.Errorf("P3.1: Split(%d): %d, %d, %v, not 0, 0, false", h, s, g, ok)
		}
	}
}

// TestSplitOfEachBit asks numbers one bit away from handles: most of them are none.
func TestSplitOfEachBit(t *testing.T) {
	for _, slot := range []int{0, 1, 31, 32, 62, 63} {
		for _, gen := range []int{0, 1, 488, 511, 512, 999, 1000} {
			for at := range 64 {
				h := handleOf(slot, gen) ^ 1<<at
				wantSlot, wantGen, want := splitBySums(h)
				if s, g, ok := handle.Split(h); s != wantSlot || g != wantGen || ok != want {
					t.Errorf("P3.1: Split(%d): %d, %d, %v, not %d, %d, %v", h, s, g, ok, wantSlot, wantGen, want)
				}
			}
		}
	}
}

func splitBySums(h int) (int, int, bool) {
	if h < handleOf(0, 0) || h > handleOf(63, 1000) {
		return 0, 0, false
	}
	rest := h - handleOf(0, 0)
	slot, gen := rest%1048576, rest/1048576
	if !may(slot, gen) {
		return 0, 0, false
	}
	return slot, gen, true
}

func TestOfEdges(t *testing.T) {
	for _, c := range []struct {
		h, slots  int
		slot, gen int
		err       api.Errno
	}{
		{handleOf(0, 0), 1, 0, 0, api.OK},
		{handleOf(0, 1000), 1, 0, 1000, api.OK},
		{handleOf(63, 1000), 64, 63, 1000, api.OK},
		{handleOf(63, 0), math.MaxInt, 63, 0, api.OK},
		{handleOf(4, 9), 5, 4, 9, api.OK},
		{handleOf(5, 9), 5, 0, 0, api.ErrStale},
		{handleOf(6, 9), 5, 0, 0, api.ErrStale},
		{handleOf(63, 9), 63, 0, 0, api.ErrStale},
		{handleOf(0, 0), 0, 0, 0, api.ErrStale},
		{handleOf(0, 0), -1, 0, 0, api.ErrStale},
		{handleOf(0, 7), math.MinInt, 0, 0, api.ErrStale},
		{handleOf(64, 0), 65, 0, 0, api.ErrStale},
		{handleOf(0, 1001), 64, 0, 0, api.ErrStale},
		{0, 64, 0, 0, api.ErrStale},
		{-handleOf(0, 0), 64, 0, 0, api.ErrStale},
	} {
		if s, g, err := handle.Of(c.h, c.slots); s != c.slot || g != c.gen || err != c.err {
			t.Errorf("P3.1: Of(%d, %d): %d, %d, %d, not %d, %d, %d", c.h, c.slots, s, g, err, c.slot, c.gen, c.err)
		}
	}
}

func TestOfMany(t *testing.T) {
	for slot := range 64 {
		for _, gen := range []int{0, 1, 999, 1000} {
			for _, slots := range append(someSlots(), slot-1, slot, slot+1) {
				wantSlot, wantGen, wantErr := 0, 0, api.ErrStale
				if slot < slots {
					wantSlot, wantGen, wantErr = slot, gen, api.OK
				}
				if s, g, err := handle.Of(handleOf(slot, gen), slots); s != wantSlot || g != wantGen || err != wantErr {
					t.Errorf("P3.1: Of(%d, %d), of slot %d: %d, %d, %d, not %d, %d, %d", handleOf(slot, gen), slots, slot, s, g, err, wantSlot, wantGen, wantErr)
				}
			}
		}
	}
	for _, h := range noHandles() {
		for _, slots := range someSlots() {
			if s, g, err := handle.Of(h, slots); s != 0 || g != 0 || err != api.ErrStale {
				t.Errorf("P3.1: Of(%d, %d): %d, %d, %d, not 0, 0, ErrStale", h, slots, s, g, err)
			}
		}
	}
}

func TestRoundEdges(t *testing.T) {
	for _, c := range []struct {
		n    int
		want int
		err  api.Errno
	}{
		{1, 8, api.OK},
		{7, 8, api.OK},
		{8, 8, api.OK},
		{9, 16, api.OK},
		{16, 16, api.OK},
		{248, 248, api.OK},
		{249, 256, api.OK},
		{255, 256, api.OK},
		{256, 256, api.OK},
		{257, 0, api.ErrSize},
		{264, 0, api.ErrSize},
		{0, 0, api.ErrSize},
		{-1, 0, api.ErrSize},
		{-8, 0, api.ErrSize},
		{1 << 32, 0, api.ErrSize},
		{math.MinInt, 0, api.ErrSize},
		{math.MaxInt, 0, api.ErrSize},
	} {
		if size, err := handle.Round(c.n); size != c.want || err != c.err {
			t.Errorf("P3.2: Round(%d): %d, %d, not %d, %d", c.n, size, err, c.want, c.err)
		}
	}
}

func TestRoundOfEach(t *testing.T) {
	for n := 1; n <= 256; n++ {
		size, err := handle.Round(n)
		if err != api.OK || size%8 != 0 || size < n || size-8 >= n {
			t.Errorf("P3.2: Round(%d): %d, %d", n, size, err)
		}
	}
}

// TestHandlesAreUnlike has no oracle: handles are held against each other alone.
func TestHandlesAreUnlike(t *testing.T) {
	of := map[int][2]int{}
	for slot := range 64 {
		for gen := range 1001 {
			h, err := handle.Make(slot, gen)
			if err != api.OK {
				t.Fatalf("P3.3: Make(%d, %d): %d", slot, gen, err)
			}
			if other, ok := of[h]; ok {
				t.Errorf("P3.3: %d is the handle of %v and of %d, %d", h, other, slot, gen)
			}
			of[h] = [2]int{slot, gen}
			if s, g, ok := handle.Split(h); s != slot || g != gen || !ok {
				t.Errorf("P3.3: Make(%d, %d), then Split: %d, %d, %v", slot, gen, s, g, ok)
			}
		}
	}
}
