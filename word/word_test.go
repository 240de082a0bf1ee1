package word_test

import (
	"math"
	"testing"

	"strongtx/api"
	"strongtx/word"
)

const tags = 1 << 48

var versions = []int{0, 1, 2, 3, 63, 64, 65, 1000, 1<<32 - 1, 1 << 32, api.MaxVersion - 1, api.MaxVersion}

var noVersions = []int{-1, -2, -64, math.MinInt, api.MaxVersion + 1, api.MaxVersion + 2, 1 << 58, math.MaxInt}

var noThreads = []int{-1, -2, math.MinInt, api.MaxThreads, api.MaxThreads + 1, 62, 63, 64, math.MaxInt}

var tagSamples = []int{0, 1, 2, 65535, 65536, 1 << 32, tags - 2, tags - 1}

var noTags = []int{-1, -2, math.MinInt, tags, tags + 1, math.MaxInt}

var noTops = []int{-2, -3, math.MinInt, api.MaxBlocks, api.MaxBlocks + 1, 65534, 65535, 65536, math.MaxInt}

// wantWord fails the test unless the result is this word without an error.
func wantWord(t *testing.T, name string, got uint64, e api.Errno, want uint64) {
	t.Helper()
	if got != want || e != api.OK {
		t.Errorf("%s: %d, error %d; want %d", name, got, e, want)
	}
}

// wantRange fails the test unless the result is ErrRange with the word 0.
func wantRange(t *testing.T, name string, got uint64, e api.Errno) {
	t.Helper()
	if got != 0 || e != api.ErrRange {
		t.Errorf("%s: %d, error %d; want 0, ErrRange", name, got, e)
	}
}

// P1.1: the words of free and held ownership records.
func TestOrecWords(t *testing.T) {
	for _, c := range []struct {
		version, thread int
		free, held      uint64
	}{
		{0, 0, 0, 1},
		{0, 15, 0, 16},
		{1, 0, 64, 65},
		{3, 1, 192, 194},
		{63, 7, 4032, 4040},
		{64, 15, 4096, 4112},
		{api.MaxVersion, 0, 70368744177664, 70368744177665},
		{api.MaxVersion, 15, 70368744177664, 70368744177680},
	} {
		free, e := word.Free(c.version)
		wantWord(t, "Free", free, e, c.free)
		held, e := word.Held(c.version, c.thread)
		wantWord(t, "Held", held, e, c.held)
	}
}

// P1.1: versions and threads that are out of range.
func TestOrecErrors(t *testing.T) {
	for _, version := range noVersions {
		o, e := word.Free(version)
		wantRange(t, "Free", o, e)
		for _, thread := range []int{0, api.MaxThreads - 1, -1, api.MaxThreads} {
			o, e = word.Held(version, thread)
			wantRange(t, "Held", o, e)
		}
	}
	for _, thread := range noThreads {
		for _, version := range versions {
			o, e := word.Held(version, thread)
			wantRange(t, "Held", o, e)
		}
	}
}

// P1.1: Version and Holder are defined for every word, also for those that no orec has.
func TestVersionAndHolder(t *testing.T) {
	for _, c := range []struct {
		o               uint64
		version, holder int
	}{
		{0, 0, -1},
		{1, 0, 0},
		{16, 0, 15},
		{17, 0, 16},
		{63, 0, 62},
		{64, 1, -1},
		{65, 1, 0},
		{127, 1, 62},
		{194, 3, 1},
		{1<<46 + 64, api.MaxVersion + 1, -1},
		{1 << 63, 1 << 57, -1},
		{1<<63 + 5, 1 << 57, 4},
		{1<<64 - 64, 1<<58 - 1, -1},
		{1<<64 - 1, 1<<58 - 1, 62},
	} {
		if v, h := word.Version(c.o), word.Holder(c.o); v != c.version || h != c.holder {
			t.Errorf("%d: Version %d, Holder %d; want %d, %d", c.o, v, h, c.version, c.holder)
		}
	}
}

// P1.2: the words of active slots.
func TestActive(t *testing.T) {
	for _, rv := range versions {
		slot, e := word.Active(rv)
		wantWord(t, "Active", slot, e, uint64(rv)+2)
	}
	for _, rv := range noVersions {
		slot, e := word.Active(rv)
		wantRange(t, "Active", slot, e)
	}
}

// P1.2: State and Snapshot are defined for every word; the words beyond MaxVersion + 2 are active without a snapshot.
func TestStateAndSnapshot(t *testing.T) {
	for _, c := range []struct {
		slot            uint64
		state, snapshot int
	}{
		{0, api.SlotIdle, -1},
		{1, api.SlotEntering, -1},
		{2, api.SlotActive, 0},
		{3, api.SlotActive, 1},
		{4, api.SlotActive, 2},
		{7, api.SlotActive, 5},
		{api.MaxVersion, api.SlotActive, api.MaxVersion - 2},
		{api.MaxVersion + 1, api.SlotActive, api.MaxVersion - 1},
		{api.MaxVersion + 2, api.SlotActive, api.MaxVersion},
		{api.MaxVersion + 3, api.SlotActive, -1},
		{api.MaxVersion + 4, api.SlotActive, -1},
		{1 << 63, api.SlotActive, -1},
		{1<<63 + 2, api.SlotActive, -1},
		{1<<64 - 1, api.SlotActive, -1},
	} {
		if s, rv := word.State(c.slot), word.Snapshot(c.slot); s != c.state || rv != c.snapshot {
			t.Errorf("%d: State %d, Snapshot %d; want %d, %d", c.slot, s, rv, c.state, c.snapshot)
		}
	}
}

// P1.3: the words of heads.
func TestHead(t *testing.T) {
	for _, c := range []struct {
		tag, top int
		head     uint64
	}{
		{0, -1, 0},
		{0, 0, 1},
		{0, 63, 64},
		{1, -1, 65536},
		{1, 63, 65600},
		{2, -1, 131072},
		{2, 5, 131078},
		{tags - 1, -1, 1<<64 - 65536},
		{tags - 1, 63, 1<<64 - 65472},
	} {
		head, e := word.Head(c.tag, c.top)
		wantWord(t, "Head", head, e, c.head)
	}
}

// P1.3: tags and tops that are out of range.
func TestHeadErrors(t *testing.T) {
	for _, tag := range noTags {
		for _, top := range []int{-1, 0, api.MaxBlocks - 1, -2, api.MaxBlocks} {
			head, e := word.Head(tag, top)
			wantRange(t, "Head", head, e)
		}
	}
	for _, top := range noTops {
		for _, tag := range tagSamples {
			head, e := word.Head(tag, top)
			wantRange(t, "Head", head, e)
		}
	}
}

// P1.3: Tag and Top are the quotient and the remainder minus 1 of every word, also of those that Head does not return.
func TestTagAndTop(t *testing.T) {
	for _, c := range []struct {
		head     uint64
		tag, top int
	}{
		{0, 0, -1},
		{1, 0, 0},
		{64, 0, 63},
		{65, 0, 64},
		{65535, 0, 65534},
		{65536, 1, -1},
		{131072, 2, -1},
		{131078, 2, 5},
		{1 << 63, 1 << 47, -1},
		{1<<64 - 65536, tags - 1, -1},
		{1<<64 - 1, tags - 1, 65534},
	} {
		if tag, top := word.Tag(c.head), word.Top(c.head); tag != c.tag || top != c.top {
			t.Errorf("%d: Tag %d, Top %d; want %d, %d", c.head, tag, top, c.tag, c.top)
		}
	}
}

// P1.3: the next head, also of words that Head does not return; the tag after the last one is 0.
func TestBump(t *testing.T) {
	for _, c := range []struct {
		head uint64
		top  int
		next uint64
	}{
		{0, -1, 65536},
		{0, 0, 65537},
		{64, 63, 65600},
		{131072, 7, 196616},
		{131078, 5, 196614},
		{65535, 3, 65540},
		{1<<64 - 131072, -1, 1<<64 - 65536},
		{1<<64 - 65536, -1, 0},
		{1<<64 - 65536, 63, 64},
		{1<<64 - 1, 63, 64},
	} {
		next, e := word.Bump(c.head, c.top)
		wantWord(t, "Bump", next, e, c.next)
	}
	for _, top := range noTops {
		for _, head := range []uint64{0, 5, 131072, 1<<64 - 65536, 1<<64 - 1} {
			next, e := word.Bump(head, top)
			wantRange(t, "Bump", next, e)
		}
	}
}

// P1.4: orecs are unpacked again, and no two of them have the same word.
func TestOrecsAreUnpacked(t *testing.T) {
	seen := map[uint64]bool{}
	for _, version := range versions {
		o, e := word.Free(version)
		if e != api.OK || word.Version(o) != version || word.Holder(o) != -1 || seen[o] {
			t.Errorf("Free(%d): %d, error %d", version, o, e)
		}
		seen[o] = true
		for thread := range api.MaxThreads {
			o, e := word.Held(version, thread)
			if e != api.OK || word.Version(o) != version || word.Holder(o) != thread || seen[o] {
				t.Errorf("Held(%d, %d): %d, error %d", version, thread, o, e)
			}
			seen[o] = true
		}
	}
}

// P1.4: active slots are unpacked again.
func TestSlotsAreUnpacked(t *testing.T) {
	for _, rv := range versions {
		slot, e := word.Active(rv)
		if e != api.OK || word.State(slot) != api.SlotActive || word.Snapshot(slot) != rv {
			t.Errorf("Active(%d): %d, error %d", rv, slot, e)
		}
	}
}

// P1.4: heads are unpacked again, and Bump changes the tag and takes the top.
func TestHeadsAreUnpacked(t *testing.T) {
	for _, tag := range tagSamples {
		for top := -1; top < api.MaxBlocks; top++ {
			head, e := word.Head(tag, top)
			if e != api.OK || word.Tag(head) != tag || word.Top(head) != top {
				t.Errorf("Head(%d, %d): %d, error %d", tag, top, head, e)
			}
			for next := -1; next < api.MaxBlocks; next++ {
				b, e := word.Bump(head, next)
				if e != api.OK || word.Tag(b) == tag || word.Tag(b) != (tag+1)%tags || word.Top(b) != next {
					t.Errorf("Bump(%d, %d): %d, error %d", head, next, b, e)
				}
			}
		}
	}
}
