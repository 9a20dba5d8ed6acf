package soft

// The flags.
const (
	inexact = 1 << iota
	underflow
	overflow
	byZero
	invalid
)

// The rounding modes.
const (
	nearestEven = iota
	towardsZero
	down
	up
	nearestAway
	modes // how many there are
)

// What a float may be. Their order counts: see product.
const (
	nought = iota
	finite // and no nought
	infinite
	quiet
	signalling
)

// layout is how the floats of a size are laid out: how many bits of exponent and of fraction they have.
type layout struct {
	exponent, fraction int
}

// number is a float taken apart. A finite one's distance from 0 is mag times 2 to the exp.
type number struct {
	class int
	minus bool
	exp   int
	mag   wide
}

// layoutOf is that of a size; false: there is no such size, or no such mode.
func layoutOf(size, rm int) (layout, bool) {
	if rm < 0 || rm >= modes {
		return layout{}, false
	}
	switch size {
	case 4:
		return layout{8, 23}, true
	case 8:
		return layout{11, 52}, true
	}
	return layout{}, false
}

// most is the exponent of the greatest finite float, and what is added to an exponent in the bits that hold it.
func (l layout) most() int { return 1<<(l.exponent-1) - 1 }

// least is the exponent of the least normal float.
func (l layout) least() int { return 1 - l.most() }

func (l layout) sign() uint64 { return 1 << (l.exponent + l.fraction) }

func (l layout) nought(minus bool) uint64 {
	if minus {
		return l.sign()
	}
	return 0
}

func (l layout) infinity(minus bool) uint64 {
	return l.nought(minus) | (l.sign() - 1<<l.fraction)
}

// greatest is the finite float that is farthest from 0.
func (l layout) greatest(minus bool) uint64 { return l.infinity(minus) - 1 }

func (l layout) quiet() uint64 { return l.infinity(false) | 1<<(l.fraction-1) }

// read takes a float apart. It masks all that it takes, since above a float of 4 bytes anything may stand.
func (l layout) read(a uint64) number {
	field := int(a >> l.fraction & (1<<l.exponent - 1))
	fraction := a & (1<<l.fraction - 1)
	n := number{minus: a&l.sign() != 0}
	switch {
	case field == 1<<l.exponent-1:
		n.class = l.classAtEnd(fraction)
	case field != 0:
		n.class = finite
		n.exp = field - l.most() - l.fraction
		n.mag = wide{0, fraction | 1<<l.fraction}
	case fraction != 0:
		n.class = finite
		n.exp = l.least() - l.fraction
		n.mag = wide{0, fraction}
	}
	return n
}

// classAtEnd is the class of a float whose exponent is ones alone.
func (l layout) classAtEnd(fraction uint64) int {
	switch {
	case fraction == 0:
		return infinite
	case fraction>>(l.fraction-1) != 0:
		return quiet
	}
	return signalling
}

// noNumbers tells whether some are no numbers, and the flags of the quiet one that then comes out.
func noNumbers(ns ...number) (int, bool) {
	flags, some := 0, false
	for _, n := range ns {
		switch n.class {
		case signalling:
			flags, some = invalid, true
		case quiet:
			some = true
		}
	}
	return flags, some
}

// noughtAndInfinity tells whether two numbers, in either order, are these.
func noughtAndInfinity(x, y number) bool {
	return x.class == nought && y.class == infinite || x.class == infinite && y.class == nought
}
