// Package word packs and unpacks shared words (chapter doc/01-word.md).
package word

import "strongtx/api"

const (
	holders = 64    // an orec is holders * version + its holder, counted from 1
	tops    = 65536 // a head is tops * tag + its top block, counted from 1
	tags    = 1 << 48
	active  = 2 // the word of an active slot with the snapshot 0
)

// Free returns the word of a free ownership record.
func Free(version int) (uint64, api.Errno) {
	if !isVersion(version) {
		return 0, api.ErrRange
	}
	return holders * uint64(version), api.OK
}

// Held returns the word of an ownership record that the thread holds.
func Held(version, thread int) (uint64, api.Errno) {
	if !isVersion(version) || thread < 0 || thread >= api.MaxThreads {
		return 0, api.ErrRange
	}
	return holders*uint64(version) + uint64(thread) + 1, api.OK
}

// Version returns the version of an ownership record, free or held.
func Version(o uint64) int {
	return int(o / holders)
}

// Holder returns the thread that holds an ownership record, or -1 if it is free.
func Holder(o uint64) int {
	return int(o%holders) - 1
}

// Active returns the word of a slot that is active with the snapshot rv.
func Active(rv int) (uint64, api.Errno) {
	if !isVersion(rv) {
		return 0, api.ErrRange
	}
	return uint64(rv) + active, api.OK
}

// State returns the state of a slot: api.SlotIdle, api.SlotEntering or api.SlotActive.
func State(slot uint64) int {
	switch slot {
	case 0:
		return api.SlotIdle
	case 1:
		return api.SlotEntering
	}
	return api.SlotActive
}

// Snapshot returns the snapshot of an active slot, or -1 if the word has none.
func Snapshot(slot uint64) int {
	if slot < active || slot > api.MaxVersion+active {
		return -1
	}
	return int(slot - active)
}

// Head returns the word of a list of blocks with this tag and this top block, -1 for none.
func Head(tag, top int) (uint64, api.Errno) {
	if tag < 0 || tag >= tags || !isTop(top) {
		return 0, api.ErrRange
	}
	return tops*uint64(tag) + uint64(top+1), api.OK
}

// Tag returns the tag of a head.
func Tag(head uint64) int {
	return int(head / tops)
}

// Top returns the top block of a head, or -1 if it has none.
func Top(head uint64) int {
	return int(head%tops) - 1
}

// Bump returns the head that follows a head: with the next tag and this top block.
// The new tag makes a swap fail that expects the old head, even if the same block is on top again.
func Bump(head uint64, top int) (uint64, api.Errno) {
	return Head((Tag(head)+1)%tags, top)
}

func isVersion(v int) bool {
	return v >= 0 && v <= api.MaxVersion
}

func isTop(top int) bool {
	return top >= -1 && top < api.MaxBlocks
}
