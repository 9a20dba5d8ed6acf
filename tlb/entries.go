package tlb

const (
	levels    = 3
	lastSpace = 1<<16 - 1
)

// A name is what entries that are the same place have in common, and no other ones.
type name struct {
	at     uint64
	level  int
	global bool
	space  uint64
}

// nameOf leaves the space of a global entry out, as it is of all of them.
func nameOf(e Entry) name {
	if e.Global {
		return name{at: e.At, level: e.Level, global: true}
	}
	return name{at: e.At, level: e.Level, space: e.Space}
}

// namesFor are those of all entries that there may be of an address and which are meant in a space.
func namesFor(space, at uint64) [2 * levels]name {
	var list [2 * levels]name
	for level := range levels {
		e := Entry{At: firstOf(at, level), Level: level, Space: space}
		list[2*level] = nameOf(e)
		e.Global = true
		list[2*level+1] = nameOf(e)
	}
	return list
}

// firstOf is the first address of the page of a level that has an address.
func firstOf(at uint64, level int) uint64 {
	low := 12 + 9*level
	return at >> low << low
}

// hasPage tells whether an entry's page has an address.
func hasPage(e Entry, at uint64) bool {
	return firstOf(at, e.Level) == e.At
}

// isOf tells whether an entry is of that one space alone.
func isOf(e Entry, space uint64) bool {
	return !e.Global && e.Space == space
}

// mayBeKept tells whether an entry is one of a page.
func mayBeKept(e Entry) bool {
	// The level is asked first, as a shift by less than nothing is a panic.
	return e.Level >= 0 && e.Level < levels && e.Space <= lastSpace && hasPage(e, e.At)
}
