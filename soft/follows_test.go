package soft_test

import "testing"

// everywhere goes through rows of all kinds, of each operation and size.
func everywhere(f func(o operation, size int, a [3]uint64)) {
	for _, o := range operations() {
		for _, size := range []int{4, 8} {
			rows := samples(o, size, 5000)
			l := edges(size)
			if o.args == 3 {
				l = shortEdges(size)
			}
			for _, a := range append(rows, rowsOf(size, o.args, l)...) {
				f(o, size, a)
			}
		}
	}
}

// P1.2: Add and Mul don't care which argument comes first.
func TestEitherFirst(t *testing.T) {
	everywhere(func(o operation, size int, a [3]uint64) {
		if o.name != "Add" && o.name != "Mul" {
			return
		}
		for rm := range 5 {
			r, f := o.do(size, rm, a)
			if s, g := o.do(size, rm, [3]uint64{a[1], a[0]}); s != r || g != f {
				t.Fatalf("%s %d %d %x: %x, %#x; the other way round %x, %#x", o.name, size, rm, a, r, f, s, g)
			}
		}
	})
}

// turned are the arguments with so many signs turned that the answer's must be; there may be two ways to do that.
func turned(name string, size int, a [3]uint64) [][3]uint64 {
	s := signOf(size)
	switch name {
	case "Add", "Sub":
		return [][3]uint64{{a[0] ^ s, a[1] ^ s}}
	case "Mul", "Div":
		return [][3]uint64{{a[0] ^ s, a[1]}, {a[0], a[1] ^ s}}
	case "Fma":
		return [][3]uint64{{a[0] ^ s, a[1], a[2] ^ s}}
	}
	return nil
}

// free tells whether an answer is a sum that is exactly 0, and whose sign the mode gave.
func free(name string, size, rm int, a [3]uint64, r uint64, f int) bool {
	if !isNought(size, r) || f != 0 || name == "Mul" || name == "Div" || name == "Sqrt" {
		return false
	}
	x, y := a[0], a[1]
	switch name {
	case "Sub":
		y ^= signOf(size)
	case "Fma":
		x, _ = named("Mul").do(size, rm, a)
		y = a[2]
	}
	return !isNought(size, x) || x != y
}

// P1.2: with the signs turned, and down and up exchanged, the answer's sign is turned.
func TestSignsTurned(t *testing.T) {
	other := [5]int{0, 1, 3, 2, 4}
	everywhere(func(o operation, size int, a [3]uint64) {
		for rm := range 5 {
			r, f := o.do(size, rm, a)
			for _, b := range turned(o.name, size, a) {
				s, g := o.do(size, other[rm], b)
				want := r ^ signOf(size)
				switch {
				case isNone(size, r):
					want = r
				case free(o.name, size, rm, a, r, f):
					want = 0
					if other[rm] == 2 {
						want = signOf(size)
					}
				}
				if s != want || g != f {
					t.Fatalf("%s %d %d %x: %x, %#x; signs turned %x: %x, %#x", o.name, size, rm, a, r, f, b, s, g)
				}
			}
		}
	})
}

// P1.2: an answer that is exact is the same in all modes, but for the sign of a sum that is 0.
func TestExactInAllModes(t *testing.T) {
	everywhere(func(o operation, size int, a [3]uint64) {
		first, flags := o.do(size, 0, a)
		for rm := 1; rm < 5; rm++ {
			r, f := o.do(size, rm, a)
			if (flags&inexact == 0) != (f&inexact == 0) {
				t.Fatalf("%s %d %x: flags %#x in mode 0, %#x in mode %d", o.name, size, a, flags, f, rm)
			}
			if flags&inexact != 0 {
				continue
			}
			want := first
			if rm == 2 && free(o.name, size, 0, a, first, flags) {
				want = signOf(size)
			}
			if r != want || f != flags {
				t.Fatalf("%s %d %x: %x, %#x in mode 0, %x, %#x in mode %d", o.name, size, a, first, flags, r, f, rm)
			}
		}
	})
}

// P1.2: what is rounded down is not above what is rounded to the nearest, nor that above what is rounded up.
func TestModesInOrder(t *testing.T) {
	everywhere(func(o operation, size int, a [3]uint64) {
		nearest, _ := o.do(size, 0, a)
		low, _ := o.do(size, 2, a)
		high, _ := o.do(size, 3, a)
		if isNone(size, nearest) {
			if low != nearest || high != nearest {
				t.Fatalf("%s %d %x: %x, down %x, up %x", o.name, size, a, nearest, low, high)
			}
			return
		}
		if place(size, low) > place(size, nearest) || place(size, nearest) > place(size, high) {
			t.Fatalf("%s %d %x: %x, down %x, up %x", o.name, size, a, nearest, low, high)
		}
		// No float lies between the two that are next to the exact value.
		if place(size, high)-place(size, low) > 1 {
			t.Fatalf("%s %d %x: down %x, up %x", o.name, size, a, low, high)
		}
	})
}

// place numbers the floats in their order; both noughts are one.
func place(size int, a uint64) int64 {
	if isMinus(size, a) {
		return -int64(far(size, a))
	}
	return int64(far(size, a))
}
