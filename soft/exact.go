package soft

import "math/bits"

// product is that of two numbers that are not a nought and an infinity. Where one is no number it is none either, and a signalling one if one is.
func product(x, y number) number {
	p := number{minus: x.minus != y.minus}
	switch {
	case x.class >= infinite || y.class >= infinite:
		p.class = max(x.class, y.class)
	case x.class == finite && y.class == finite:
		p.class = finite
		p.exp = x.exp + y.exp
		p.mag = multiply(x.mag.low, y.mag.low)
	}
	return p
}

// raised is the same number, its highest bit brought to a place of mag.
func (n number) raised(place int) number {
	shift := n.mag.leadingNoughts() - (wideBits - 1 - place)
	n.mag = n.mag.left(shift)
	n.exp -= shift
	return n
}

// total is the sum of two finite numbers or noughts. Where it is 0 its sign means nothing.
func total(x, y number) number {
	if x.class == nought {
		return y
	}
	if y.class == nought {
		return x
	}
	// The place above the highest bit is left for the carry. Neither part has more than 106 bits, so bits fall out below only where one part is so much less that at most one of the other's highest bits is lost.
	x, y = x.raised(wideBits-2), y.raised(wideBits-2)
	if x.exp < y.exp || x.exp == y.exp && x.mag.below(y.mag) {
		x, y = y, x
	}
	y.mag = y.mag.rightSticky(x.exp - y.exp)
	switch {
	case x.minus == y.minus:
		x.mag = x.mag.plus(y.mag)
	case x.mag == y.mag:
		return number{}
	default:
		x.mag = x.mag.minus(y.mag)
	}
	return x
}

// quotient is that of two finite numbers, with the last bit 1 if there is a rest.
func quotient(x, y number) number {
	// Raised like this the high word is always below the divisor, and the quotient has at least 63 bits.
	x, y = x.raised(wideBits-2), y.raised(63)
	q, rest := bits.Div64(x.mag.high, x.mag.low, y.mag.low)
	return number{
		class: finite,
		minus: x.minus != y.minus,
		exp:   x.exp - y.exp - 1,
		mag:   wide{0, q}.left(1).sticky(rest != 0),
	}
}

// root is the square root of a finite number above 0, with the last bit 1 if there is a rest.
func root(x number) number {
	x = x.raised(wideBits - 1)
	if x.exp%2 != 0 {
		x.mag = x.mag.right(1)
		x.exp++
	}
	r := wholeRoot(x.mag)
	return number{
		class: finite,
		exp:   x.exp/2 - 1,
		mag:   wide{0, r}.left(1).sticky(multiply(r, r) != x.mag),
	}
}

// wholeRoot is the greatest whole number whose square is not above a wide one.
func wholeRoot(w wide) uint64 {
	r := uint64(0)
	for bit := uint64(1) << 63; bit != 0; bit >>= 1 {
		if t := r | bit; !w.below(multiply(t, t)) {
			r = t
		}
	}
	return r
}
