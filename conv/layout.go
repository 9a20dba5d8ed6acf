package conv

// The flags that conversions raise.
const (
	inexact   = 1
	underflow = 2
	overflow  = 4
	invalid   = 16
)

// The rounding modes.
const (
	nearestEven = iota
	towardsZero
	down
	up
	nearestAway
	modes // how many there are
)

// What a float may be, numbered as the bits of a class. Those below 0 mirror those above: see class.
const (
	minusInfinite = iota
	minusNormal
	minusSubnormal
	minusNought
	nought
	subnormal
	normal
	infinite
	signalling
	otherNone
)

// layout is how the floats of a size are laid out: how many bits of exponent and of fraction they have.
type layout struct {
	exponent, fraction int
}

// number is a finite float taken apart. Its distance from 0 is mag times 2 to the exp.
type number struct {
	minus bool
	exp   int
	mag   uint64
}

// layoutOf is that of a size; false: there is no such size.
func layoutOf(size int) (layout, bool) {
	switch size {
	case 4:
		return layout{8, 23}, true
	case 8:
		return layout{11, 52}, true
	}
	return layout{}, false
}

func isMode(rm int) bool { return rm >= 0 && rm < modes }

// most is the exponent of the greatest finite float, and what is added to an exponent in the bits that hold it.
func (l layout) most() int { return 1<<(l.exponent-1) - 1 }

// least is the exponent of the least normal float.
func (l layout) least() int { return 1 - l.most() }

func (l layout) sign() uint64 { return 1 << (l.exponent + l.fraction) }

func (l layout) isMinus(a uint64) bool { return a&l.sign() != 0 }

// far is the float without its sign, and without what stands above a float of 4 bytes, where anything may.
func (l layout) far(a uint64) uint64 { return a & (l.sign() - 1) }

// bits is the float as answers have it.
func (l layout) bits(a uint64) uint64 { return l.far(a) | a&l.sign() }

func (l layout) nought(minus bool) uint64 {
	if minus {
		return l.sign()
	}
	return 0
}

func (l layout) infinity(minus bool) uint64 {
	return l.nought(minus) | (l.sign() - 1<<l.fraction)
}

// greatest is the finite float that is farthest from 0.
func (l layout) greatest(minus bool) uint64 { return l.infinity(minus) - 1 }

func (l layout) quiet() uint64 { return l.infinity(false) | 1<<(l.fraction-1) }

func (l layout) class(a uint64) int {
	far := l.far(a)
	switch {
	case far >= l.quiet():
		return otherNone
	case far > l.infinity(false):
		return signalling
	}
	c := nought
	switch {
	case far == l.infinity(false):
		c = infinite
	case far >= 1<<l.fraction:
		c = normal
	case far != 0:
		c = subnormal
	}
	if l.isMinus(a) {
		return nought + minusNought - c // the mirror stands between the noughts
	}
	return c
}

// isNone tells whether a float is no number.
func (l layout) isNone(a uint64) bool { return l.class(a) >= signalling }

// ofSignalling are the flags that a signalling one raises, whatever is done with it.
func (l layout) ofSignalling(as ...uint64) int {
	for _, a := range as {
		if l.class(a) == signalling {
			return invalid
		}
	}
	return 0
}

// read takes a finite float apart.
func (l layout) read(a uint64) number {
	field, mag := int(l.far(a)>>l.fraction), a&(1<<l.fraction-1)
	if field == 0 {
		return number{l.isMinus(a), l.least() - l.fraction, mag}
	}
	return number{l.isMinus(a), field - l.most() - l.fraction, mag | 1<<l.fraction}
}
