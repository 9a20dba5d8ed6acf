package soft

// Where the bits that are dropped stand.
const (
	nothing = iota
	belowHalf
	half
	aboveHalf
)

// split tells what is kept of a number without its lowest bits, and where these stand, held against half of what the last kept bit counts.
func (w wide) split(drop int) (uint64, int) {
	if drop > wideBits {
		return 0, belowHalf
	}
	kept := w.right(drop)
	rest := w.minus(kept.left(drop))
	middle := wide{0, 1}.left(drop - 1)
	switch {
	case rest == wide{}:
		return kept.low, nothing
	case rest == middle:
		return kept.low, half
	case rest.below(middle):
		return kept.low, belowHalf
	}
	return kept.low, aboveHalf
}

// away tells whether a number is rounded to the next one farther from 0.
func away(rm int, minus bool, kept uint64, rest int) bool {
	switch rm {
	case nearestEven:
		return rest == aboveHalf || rest == half && kept&1 != 0
	case down:
		return rest != nothing && minus
	case up:
		return rest != nothing && !minus
	case nearestAway:
		return rest >= half
	}
	return false
}

// cut drops the lowest bits of a number and rounds what is kept; true: it is not what it was.
func cut(rm int, minus bool, w wide, drop int) (uint64, bool) {
	kept, rest := w.split(drop)
	if away(rm, minus, kept, rest) {
		kept++
	}
	return kept, rest != nothing
}

// round is the float of a finite number that is not 0.
func round(l layout, rm int, n number) (uint64, int) {
	n = n.raised(wideBits - 1)
	top, drop := n.exp+wideBits-1, wideBits-1-l.fraction
	kept, differs := cut(rm, n.minus, n.mag, drop)
	carry := int(kept >> (l.fraction + 1))
	if top+carry > l.most() {
		return l.beyond(rm, n.minus), inexact | overflow
	}
	flags := 0
	if top < l.least() {
		// Whether this is an underflow hangs on the number as it was rounded with all of a normal one's bits.
		if top+carry < l.least() {
			flags = underflow
		}
		kept, differs = cut(rm, n.minus, n.mag, drop+l.least()-top)
		top = l.least()
	}
	if !differs {
		return l.join(n.minus, top, kept), 0
	}
	return l.join(n.minus, top, kept), flags | inexact
}

// join puts a float together. Where kept has its highest bit, or one more by a carry, that bit itself counts the exponent up.
func (l layout) join(minus bool, top int, kept uint64) uint64 {
	field := uint64(top + l.most() - 1)
	return l.nought(minus) | (field<<l.fraction + kept)
}

// beyond is what an overflow comes to.
func (l layout) beyond(rm int, minus bool) uint64 {
	if away(rm, minus, 0, aboveHalf) {
		return l.infinity(minus)
	}
	return l.greatest(minus)
}
