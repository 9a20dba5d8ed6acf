package walk

import "tandem/api"

// The fields of Mstatus that are looked at.
const (
	placeMPP  = 11
	fieldMPP  = 3 << placeMPP
	fieldMPRV = 1 << 17
	fieldSUM  = 1 << 18
	fieldMXR  = 1 << 19
)

// letsKind tells whether an entry lets its page be accessed so, whoever does it.
func letsKind(c *api.Csrs, kind int, entry uint64) bool {
	switch kind {
	case api.Fetch:
		return entry&runnable != 0
	case api.Write:
		return entry&writable != 0
	case api.Atomic:
		return entry&(readable|writable) == readable|writable
	}
	return entry&readable != 0 || entry&runnable != 0 && c.Mstatus&fieldMXR != 0
}

// letsMode tells whether a mode may access an entry's page: S leaves those of U alone, but where SUM lets it; and never runs what stands there.
func letsMode(c *api.Csrs, mode, kind int, entry uint64) bool {
	ofUsers := entry&users != 0
	if mode == api.Supervisor {
		return !ofUsers || c.Mstatus&fieldSUM != 0 && kind != api.Fetch
	}
	return ofUsers
}

// isMarked tells whether an entry has the marks of such an access, as no walk sets them.
func isMarked(kind int, entry uint64) bool {
	marks := uint64(accessed)
	if writes(kind) {
		marks |= dirty
	}
	return entry&marks == marks
}

// writes tells whether an access of a kind does.
func writes(kind int) bool {
	return kind == api.Write || kind == api.Atomic
}

// pageFault is the cause where tables don't lead to the page, or don't let it be accessed so.
func pageFault(kind int) uint64 {
	switch {
	case kind == api.Fetch:
		return api.FetchPage
	case writes(kind):
		return api.WritePage
	}
	return api.ReadPage
}

// accessFault is the cause where what is accessed may not be, or isn't there.
func accessFault(kind int) uint64 {
	switch {
	case kind == api.Fetch:
		return api.FetchFault
	case writes(kind):
		return api.WriteFault
	}
	return api.ReadFault
}

// taken is the mode for which a number is taken.
func taken(mode int) int {
	if mode == api.Machine || mode == api.Supervisor {
		return mode
	}
	return api.User
}
