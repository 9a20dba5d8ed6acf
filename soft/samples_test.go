package soft_test

import "tandem/soft"

// any is some finite float, its exponent anywhere, its fraction often with few bits.
func (d *dice) any(size int) uint64 {
	a := d.next()
	switch d.below(4) {
	case 0:
		a &= a << 7 & (a << 19)
	case 1:
		a |= leastOf(size) - 1<<d.below(fractionBits(size))
	case 2:
		a &^= leastOf(size) - 1
		a |= 1 << d.below(fractionBits(size))
	}
	a &= signOf(size) | signOf(size) - 1
	if far(size, a) >= endOf(size) {
		a &^= leastOf(size)
	}
	return a
}

// near is a float some exponents beside another one.
func (d *dice) near(size int, a uint64) uint64 {
	reach := 2*fractionBits(size) + 8
	e := far(size, a)>>fractionBits(size) + uint64(d.below(reach)) - uint64(reach/2)
	if e >= endOf(size)>>fractionBits(size) {
		e = uint64(d.below(3))
	}
	return d.any(size)&^endOf(size) | e<<fractionBits(size)
}

// middling is a float whose square, and whose products, neither overflow nor underflow.
func (d *dice) middling(size int) uint64 {
	e := oneOf(size)>>fractionBits(size) + uint64(d.below(2*fractionBits(size))) - uint64(fractionBits(size))
	return d.any(size)&^endOf(size) | e<<fractionBits(size)
}

// beside is a float few places beside another one.
func (d *dice) beside(size int, a uint64) uint64 {
	b := far(size, a) + uint64(d.below(5)) - 2
	if b >= endOf(size) {
		b = far(size, a)
	}
	return b | a&signOf(size)
}

// halves are numbers whose sum lies at, or just beside, the middle between two floats.
func (d *dice) halves(size int) (uint64, uint64) {
	a := d.middling(size)
	e := far(size, a)>>fractionBits(size) - uint64(fractionBits(size)) - 1
	half := e << fractionBits(size)
	return a, d.beside(size, half) | d.next()&signOf(size)
}

// little are numbers whose product is about the least normal one, or subnormal.
func (d *dice) little(size int) (uint64, uint64) {
	bits := fractionBits(size)
	most := oneOf(size) >> bits
	e := uint64(d.below(int(most)))
	down := uint64(d.below(bits + 4))
	if down > e {
		down = e
	}
	// The exponents' sum is that of the least normal one, or somewhat less.
	f := most - e + 1
	e -= down
	return d.any(size)&^endOf(size) | e<<bits, d.any(size)&^endOf(size) | f<<bits
}

// pair is a row of two floats of some such kind.
func (d *dice) pair(size int) (uint64, uint64) {
	a, sign := d.any(size), d.next()&signOf(size)
	switch d.below(6) {
	case 0:
		return a, d.near(size, a)
	case 1:
		return a, d.beside(size, a) ^ sign
	case 2:
		return d.halves(size)
	case 3:
		return d.little(size)
	case 4:
		// A quotient that is a float, or nearly one.
		b, q := d.middling(size), d.middling(size)
		p, _ := soft.Mul(size, 0, b, q)
		return d.beside(size, p), b
	}
	return a, d.any(size)
}

// alone is a float of some such kind.
func (d *dice) alone(size int) uint64 {
	if d.below(2) == 0 {
		return d.any(size) &^ signOf(size)
	}
	// A root that is a float, or nearly one.
	r := d.middling(size)
	p, _ := soft.Mul(size, 0, r, r)
	return d.beside(size, p)
}

// triple is a row of three floats of some such kind.
func (d *dice) triple(size int) [3]uint64 {
	a, b := d.pair(size)
	sign := signOf(size)
	p, _ := soft.Mul(size, d.below(5), a, b)
	if far(size, p) >= endOf(size) {
		return [3]uint64{a, b, d.any(size)}
	}
	switch d.below(5) {
	case 0:
		// The parts cancel but for what the product has below its highest bits.
		return [3]uint64{a, b, p ^ sign}
	case 1:
		return [3]uint64{a, b, d.beside(size, p) ^ sign}
	case 2:
		return [3]uint64{a, b, d.near(size, p)}
	case 3:
		// c is about half of the product's last bit, or the product of c's.
		c := far(size, p) &^ (leastOf(size) - 1)
		gap := uint64(fractionBits(size)+d.below(2)) << fractionBits(size)
		if d.below(2) == 0 && c > gap {
			c -= gap
		} else if c+gap < endOf(size) {
			c += gap
		}
		return [3]uint64{a, b, c | d.next()&sign}
	}
	return [3]uint64{a, b, d.any(size)}
}

// samples are so many rows of an operation's arguments, always the same ones.
func samples(o operation, size, count int) [][3]uint64 {
	d := dice(size)
	rows := make([][3]uint64, count)
	for i := range rows {
		switch o.args {
		case 1:
			rows[i] = [3]uint64{d.alone(size)}
		case 2:
			a, b := d.pair(size)
			rows[i] = [3]uint64{a, b}
		default:
			rows[i] = d.triple(size)
		}
	}
	return rows
}
