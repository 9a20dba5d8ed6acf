package trap

import "tandem/api"

// The fields of Mstatus that traps and returns from them turn.
const (
	fieldSIE  = 1 << 1
	fieldMIE  = 1 << 3
	fieldSPIE = 1 << 5
	fieldMPIE = 1 << 7
	placeSPP  = 8
	fieldSPP  = 1 << placeSPP
	placeMPP  = 11
	fieldMPP  = 3 << placeMPP
	fieldMPRV = 1 << 17
)

// The fields are those by which the traps of a mode are told: whether it lets interrupts come in, and did ahead of its trap; and which mode was ahead of that.
type fields struct {
	lets, did uint64
	mode      uint64
	place     int
}

// fieldsOf are those of the traps that are taken in M, or in S.
func fieldsOf(mode int) fields {
	if mode == api.Machine {
		return fields{lets: fieldMIE, did: fieldMPIE, mode: fieldMPP, place: placeMPP}
	}
	return fields{lets: fieldSIE, did: fieldSPIE, mode: fieldSPP, place: placeSPP}
}

// entered is Mstatus behind a trap out of a mode.
func (f fields) entered(status uint64, mode int) uint64 {
	status = put(status, f.did, status&f.lets != 0)
	status = put(status, f.lets, false)
	return status&^f.mode | uint64(mode)<<f.place
}

// left is Mstatus behind a return, and the mode that it leads to. What M had its accesses be made as (MPRV) ends where M does.
func (f fields) left(status uint64) (uint64, int) {
	mode := taken(int(status & f.mode >> f.place))
	status = put(status, f.lets, status&f.did != 0)
	status = put(status, f.did, true)
	if mode != api.Machine {
		status = put(status, fieldMPRV, false)
	}
	return status &^ f.mode, mode
}

// put is a number in which a bit is 1 or 0.
func put(v, bit uint64, one bool) uint64 {
	if one {
		return v | bit
	}
	return v &^ bit
}

// taken is the mode for which a number is taken.
func taken(mode int) int {
	if mode == api.Machine || mode == api.Supervisor {
		return mode
	}
	return api.User
}

// mayInterrupt tells whether interrupts that are taken in one mode come in while the hart is in another: those of a mode above always do, those of one below never.
func mayInterrupt(status uint64, mode, in int) bool {
	return mode < in || mode == in && status&fieldsOf(in).lets != 0
}
