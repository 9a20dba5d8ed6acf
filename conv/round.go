package conv

import "math/bits"

// Where the bits that are dropped stand.
const (
	nothing = iota
	belowHalf
	half
	aboveHalf
)

// split tells what is kept of a number that is not 0 without its lowest bits, and where these stand, held against half of what the last kept bit counts.
func split(mag uint64, drop int) (uint64, int) {
	if drop > 64 {
		return 0, belowHalf
	}
	kept := mag >> drop
	rest := mag - kept<<drop
	if rest == 0 {
		return kept, nothing
	}
	middle := uint64(1) << (drop - 1)
	switch {
	case rest < middle:
		return kept, belowHalf
	case rest == middle:
		return kept, half
	}
	return kept, aboveHalf
}

// away tells whether a number is rounded to the next one farther from 0.
func away(rm int, minus bool, kept uint64, rest int) bool {
	switch rm {
	case nearestEven:
		return rest == aboveHalf || rest == half && kept&1 != 0
	case down:
		return rest != nothing && minus
	case up:
		return rest != nothing && !minus
	case nearestAway:
		return rest >= half
	}
	return false
}

// cut drops the lowest bits of a number that is not 0 and rounds what is kept; true: it is not what it was.
func cut(rm int, n number, drop int) (uint64, bool) {
	kept, rest := split(n.mag, drop)
	if away(rm, n.minus, kept, rest) {
		kept++
	}
	return kept, rest != nothing
}

// round is the float of a number.
func (l layout) round(rm int, n number) (uint64, int) {
	if n.mag == 0 {
		return l.nought(n.minus), 0
	}
	shift := bits.LeadingZeros64(n.mag)
	n.mag <<= shift
	top, drop := n.exp-shift+63, 63-l.fraction
	kept, differs := cut(rm, n, drop)
	carry := int(kept >> (l.fraction + 1))
	if top+carry > l.most() {
		return l.beyond(rm, n.minus), inexact | overflow
	}
	flags := inexact
	if top < l.least() {
		// Whether this is an underflow hangs on the number as it was rounded with all of a normal one's bits.
		if top+carry < l.least() {
			flags |= underflow
		}
		kept, differs = cut(rm, n, drop+l.least()-top)
		top = l.least()
	}
	if !differs {
		flags = 0
	}
	return l.join(n.minus, top, kept), flags
}

// join puts a float together. Where kept has its highest bit, or one more by a carry, that bit itself counts the exponent up.
func (l layout) join(minus bool, top int, kept uint64) uint64 {
	field := uint64(top + l.most() - 1)
	return l.nought(minus) | (field<<l.fraction + kept)
}

// beyond is what an overflow comes to.
func (l layout) beyond(rm int, minus bool) uint64 {
	if away(rm, minus, 0, aboveHalf) {
		return l.infinity(minus)
	}
	return l.greatest(minus)
}
