package pmp

import (
	"math/bits"

	"tandem/api"
)

// The bits of a setting; its way stands in two of them, from the bit wayAt on.
const (
	allowsRead  = 1 << 0
	allowsWrite = 1 << 1
	allowsFetch = 1 << 2
	wayAt       = 3
	wayBits     = 3 << wayAt
	lock        = 1 << 7
	settingBits = allowsRead | allowsWrite | allowsFetch | wayBits | lock
)

// The ways.
const (
	off = iota
	upTo
	fourBytes
	powerOfTwo
)

// addressBits are those of an address that are looked at.
const addressBits = 1<<54 - 1

// isEntry tells whether there is an entry of that number.
func isEntry(n int) bool {
	return n >= 0 && n < api.PmpEntries
}

// wayOf is a setting's way.
func wayOf(setting uint8) int {
	return int(setting & wayBits >> wayAt)
}

// isLocked tells whether a setting is.
func isLocked(setting uint8) bool {
	return setting&lock != 0
}

// isRefused tells whether a setting is one that no write leaves.
func isRefused(setting uint8) bool {
	return setting&(allowsRead|allowsWrite) == allowsWrite
}

// beginsLocked tells whether an entry is a locked one that begins at the address of the entry ahead, so that this one has to stay, too.
func beginsLocked(cfg [api.PmpEntries]uint8, n int) bool {
	return isEntry(n) && isLocked(cfg[n]) && wayOf(cfg[n]) == upTo
}

// place is the byte to which an entry's address leads.
func place(addr uint64) uint64 {
	return 4 * (addr & addressBits)
}

// reach is how many bytes an address of the way powerOfTwo stands for, by the ones that it ends with.
func reach(addr uint64) uint64 {
	return 8 << bits.TrailingZeros64(^(addr & addressBits))
}

// between is the range from a byte on, up to ahead of another one.
func between(start, behind uint64) (uint64, uint64, bool) {
	if start >= behind {
		return 0, 0, false
	}
	return start, behind - 1, true
}

// around is the range of so many bytes, a power of two, that has a byte and begins at a multiple of how many they are.
func around(at, size uint64) (uint64, uint64, bool) {
	first := at &^ (size - 1)
	return first, first + size - 1, true
}

// isAccess tells whether there is such an access: of a kind, of a size, and of bytes that all have addresses.
func isAccess(kind int, at uint64, size int) bool {
	switch size {
	case 1, 2, 4, 8:
		return kind >= api.Fetch && kind <= api.Atomic && at+uint64(size)-1 >= at
	}
	return false
}

// allows tells whether a setting allows a kind.
func allows(setting uint8, kind int) bool {
	needs := uint8(allowsRead | allowsWrite)
	switch kind {
	case api.Fetch:
		needs = allowsFetch
	case api.Read:
		needs = allowsRead
	case api.Write:
		needs = allowsWrite
	}
	return setting&needs == needs
}
