package walk_test

import (
	"tandem/api"
	"tandem/bus"
	"tandem/walk"
)

// A second reading of the chapter, by single bits, with which answers are held.

// bit is one of a number's.
func bit(n uint64, at int) bool {
	return n/(1<<at)%2 == 1
}

// known is the mode for which a number is taken.
func known(mode int) int {
	if mode == 3 || mode == 1 {
		return mode
	}
	return 0
}

// counted is the kind as which a number counts.
func counted(kind int) int {
	if kind >= 0 && kind <= 3 {
		return kind
	}
	return 1
}

func bookMode(c *api.Csrs, mode, kind int) int {
	if mode != 3 || kind == 0 || !bit(c.Mstatus, 17) {
		return known(mode)
	}
	switch {
	case bit(c.Mstatus, 12) && bit(c.Mstatus, 11):
		return 3
	case bit(c.Mstatus, 11):
		return 1
	}
	return 0
}

func bookAllows(c *api.Csrs, mode, kind int, entry uint64) bool {
	kind = counted(kind)
	readable, writable, runnable := bit(entry, 1), bit(entry, 2), bit(entry, 3)
	lets := []bool{runnable, readable || runnable && bit(c.Mstatus, 19), writable, readable && writable}[kind]
	users := bit(entry, 4)
	if mode == 1 && users {
		lets = lets && bit(c.Mstatus, 18) && kind != 0
	}
	if mode != 1 && !users {
		lets = false
	}
	if !bit(entry, 6) || kind >= 2 && !bit(entry, 7) {
		lets = false
	}
	return lets
}

// The causes by kind.
var (
	pageFaults   = [4]uint64{12, 13, 15, 15}
	accessFaults = [4]uint64{1, 5, 7, 7}
)

func (o *world) bookWalk(mode, kind int, at uint64) (walk.Leaf, uint64) {
	scheme := 0
	for n := range 4 {
		if bit(o.c.Satp, 60+n) {
			scheme += 1 << n
		}
	}
	if mode == 3 || scheme != 8 {
		return walk.Leaf{Address: at, Level: -1}, 0
	}
	for n := 39; n < 64; n++ {
		if bit(at, n) != bit(at, 38) {
			return walk.Leaf{}, pageFaults[counted(kind)]
		}
	}
	return o.bookStep(mode, kind, at, 2, o.c.Satp%(1<<44))
}

// bookStep is a walk from a level's table down.
func (o *world) bookStep(mode, kind int, at uint64, level int, page uint64) (walk.Leaf, uint64) {
	wrong := pageFaults[counted(kind)]
	from := 4096*page + 8*(at/[]uint64{1 << 12, 1 << 21, 1 << 30}[level]%512)
	if !may(&o.c, api.Supervisor, api.Read, from, 8) || from < api.RamBase || from > api.RamBase+api.RamSize-8 {
		return walk.Leaf{}, accessFaults[counted(kind)]
	}
	entry := o.entryAt(from)
	next := entry / (1 << 10) % (1 << 44)
	switch {
	case !bit(entry, 0), bit(entry, 2) && !bit(entry, 1), entry >= 1<<54:
		return walk.Leaf{}, wrong
	case !bit(entry, 1) && !bit(entry, 3):
		if level == 0 || bit(entry, 4) || bit(entry, 6) || bit(entry, 7) {
			return walk.Leaf{}, wrong
		}
		return o.bookStep(mode, kind, at, level-1, next)
	case !bookAllows(&o.c, mode, kind, entry):
		return walk.Leaf{}, wrong
	}
	size := []uint64{1 << 12, 1 << 21, 1 << 30}[level]
	if next*4096%size != 0 {
		return walk.Leaf{}, wrong
	}
	return walk.Leaf{Address: next*4096 + at%size, Level: level, Entry: entry, From: from}, 0
}

// entryAt is the number that stands in the RAM; behind the image there are noughts.
func (o *world) entryAt(at uint64) (entry uint64) {
	for n := uint64(0); n < 8; n++ {
		if i := at - api.RamBase + n; i < uint64(len(o.image)) {
			entry += uint64(o.image[i]) << (8 * n)
		}
	}
	return entry
}

func (o *world) bookReach(b *bus.Bus, mode, kind int, at uint64, size int) (uint64, uint64) {
	judged := bookMode(&o.c, mode, kind)
	l, cause := o.bookWalk(judged, kind, at)
	switch {
	case cause != 0:
		return 0, cause
	case !may(&o.c, judged, kind, l.Address, size), !b.May(kind, l.Address, size):
		return 0, accessFaults[counted(kind)]
	}
	return l.Address, 0
}
