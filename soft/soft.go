// Package soft is layer 1: sums, products, quotients and roots of floats, by whole numbers alone.
package soft

// Add tells the sum of two floats of a size (4 or 8 bytes), rounded by a mode, and the flags that are raised.
func Add(size, rm int, a, b uint64) (uint64, int) {
	l, ok := layoutOf(size, rm)
	if !ok {
		return 0, 0
	}
	return sum(l, rm, l.read(a), l.read(b))
}

// Sub tells the difference.
func Sub(size, rm int, a, b uint64) (uint64, int) {
	l, ok := layoutOf(size, rm)
	if !ok {
		return 0, 0
	}
	return sum(l, rm, l.read(a), l.read(b^l.sign()))
}

// Mul tells the product.
func Mul(size, rm int, a, b uint64) (uint64, int) {
	l, ok := layoutOf(size, rm)
	if !ok {
		return 0, 0
	}
	x, y := l.read(a), l.read(b)
	if noughtAndInfinity(x, y) {
		return l.quiet(), invalid
	}
	p := product(x, y)
	if flags, some := noNumbers(p); some {
		return l.quiet(), flags
	}
	return write(l, rm, p)
}

// Div tells the quotient.
func Div(size, rm int, a, b uint64) (uint64, int) {
	l, ok := layoutOf(size, rm)
	if !ok {
		return 0, 0
	}
	x, y := l.read(a), l.read(b)
	if flags, some := noNumbers(x, y); some {
		return l.quiet(), flags
	}
	minus := x.minus != y.minus
	switch {
	case x.class == y.class && x.class != finite:
		return l.quiet(), invalid
	case x.class == infinite:
		return l.infinity(minus), 0
	case x.class == nought || y.class == infinite:
		return l.nought(minus), 0
	case y.class == nought:
		return l.infinity(minus), byZero
	}
	return round(l, rm, quotient(x, y))
}

// Sqrt tells the square root.
func Sqrt(size, rm int, a uint64) (uint64, int) {
	l, ok := layoutOf(size, rm)
	if !ok {
		return 0, 0
	}
	x := l.read(a)
	if flags, some := noNumbers(x); some {
		return l.quiet(), flags
	}
	switch {
	case x.class == nought:
		return l.nought(x.minus), 0
	case x.minus:
		return l.quiet(), invalid
	case x.class == infinite:
		return l.infinity(false), 0
	}
	return round(l, rm, root(x))
}

// Fma tells a times b, and c, rounded once.
func Fma(size, rm int, a, b, c uint64) (uint64, int) {
	l, ok := layoutOf(size, rm)
	if !ok {
		return 0, 0
	}
	x, y := l.read(a), l.read(b)
	// This is invalid even where c is no number, so it is asked first.
	if noughtAndInfinity(x, y) {
		return l.quiet(), invalid
	}
	return sum(l, rm, product(x, y), l.read(c))
}

// sum is the float of the sum of two numbers.
func sum(l layout, rm int, x, y number) (uint64, int) {
	if flags, some := noNumbers(x, y); some {
		return l.quiet(), flags
	}
	switch {
	case x.class == infinite && y.class == infinite && x.minus != y.minus:
		return l.quiet(), invalid
	case x.class == infinite:
		return l.infinity(x.minus), 0
	case y.class == infinite:
		return l.infinity(y.minus), 0
	case x.class == nought && y.class == nought && x.minus == y.minus:
		return l.nought(x.minus), 0
	}
	s := total(x, y)
	if s.class == nought {
		s.minus = rm == down
	}
	return write(l, rm, s)
}

// write is the float of a number that is one.
func write(l layout, rm int, n number) (uint64, int) {
	switch n.class {
	case nought:
		return l.nought(n.minus), 0
	case infinite:
		return l.infinity(n.minus), 0
	}
	return round(l, rm, n)
}
