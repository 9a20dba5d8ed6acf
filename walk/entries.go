package walk

import (
	"tandem/api"
	"tandem/bus"
	"tandem/pmp"
)

// The bits of an entry: those of what may be done with its page, and whether that was done; its page's number stands from the bit pageAt on, and from the bit noughts on there are none but 0.
const (
	valid    = 1 << 0
	readable = 1 << 1
	writable = 1 << 2
	runnable = 1 << 3
	users    = 1 << 4
	accessed = 1 << 6
	dirty    = 1 << 7
	pageAt   = 10
	pageBits = 1<<44 - 1
	noughts  = 54
)

// The levels and what an address tells of each: an entry's number, by the bits of its page above those within it.
const (
	untranslated = -1
	topLevel     = 2
	entryBytes   = 8
	levelBits    = 9
	withinBits   = 12
)

// entryPlace is where the entry of an address stands, in the table of a level at a page.
func entryPlace(page uint64, level int, at uint64) uint64 {
	n := at >> inPage(level) & (1<<levelBits - 1)
	return page<<withinBits + entryBytes*n
}

// readEntry reads an entry, if it is the RAM's and S may read it; whose access leads there doesn't matter.
func readEntry(b *bus.Bus, c *api.Csrs, from uint64) (uint64, bool) {
	if !pmp.Check(c.Pmpcfg, c.Pmpaddr, api.Supervisor, api.Read, from, entryBytes) || !b.Plain(from, entryBytes) {
		return 0, false
	}
	return b.Read(api.Read, from, entryBytes)
}

// isBroken tells whether an entry is. One that leads on says nothing of a page, so it has no marks of one.
func isBroken(entry uint64) bool {
	if entry&valid == 0 || entry&(readable|writable) == writable || entry>>noughts != 0 {
		return true
	}
	return !isLeaf(entry) && entry&(users|accessed|dirty) != 0
}

// isLeaf tells whether one that isn't broken tells of a page, rather than of the next table.
func isLeaf(entry uint64) bool {
	return entry&(readable|runnable) != 0
}

// pageOf is the number of an entry's page.
func pageOf(entry uint64) uint64 {
	return entry >> pageAt & pageBits
}

// inPage is how many bits of an address lead within a page of a level.
func inPage(level int) int {
	return withinBits + levelBits*level
}

// begins tells whether a page of a level may have that number: greater ones begin at multiples of their size.
func begins(page uint64, level int) bool {
	return page<<withinBits&(1<<inPage(level)-1) == 0
}

// address is the physical one of an address in a page of a level.
func address(page uint64, level int, at uint64) uint64 {
	return page<<withinBits + at&(1<<inPage(level)-1)
}
