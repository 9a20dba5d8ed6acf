package soft_test

import (
	"math"
	"math/big"
	"slices"
)

// The flags.
const (
	inexact   = 1
	underflow = 2
	overflow  = 4
	byZero    = 8
	invalid   = 16
)

func fractionBits(size int) int {
	if size == 4 {
		return 23
	}
	return 52
}

func signOf(size int) uint64 { return 1 << (8*size - 1) }

func endOf(size int) uint64 {
	if size == 4 {
		return 0x7f800000
	}
	return 0x7ff0000000000000
}

func quietOf(size int) uint64 {
	if size == 4 {
		return 0x7fc00000
	}
	return 0x7ff8000000000000
}

func oneOf(size int) uint64 {
	if size == 4 {
		return 0x3f800000
	}
	return 0x3ff0000000000000
}

// leastOf is the least normal one.
func leastOf(size int) uint64 { return 1 << fractionBits(size) }

// far is the float without its sign.
func far(size int, a uint64) uint64 { return a & (signOf(size) - 1) }

func isMinus(size int, a uint64) bool { return a&signOf(size) != 0 }

func isNone(size int, a uint64) bool { return far(size, a) > endOf(size) }

func isSignalling(size int, a uint64) bool {
	return isNone(size, a) && a>>(fractionBits(size)-1)&1 == 0
}

func isEnd(size int, a uint64) bool { return far(size, a) == endOf(size) }

func isNought(size int, a uint64) bool { return far(size, a) == 0 }

// precision is enough for every sum of a product of the largest and the least floats to be exact.
const precision = 8192

func exactly(f float64) *big.Float { return new(big.Float).SetPrec(precision).SetFloat64(f) }

// valueOf is a float in real numbers. The infinity counts as what would stand behind the greatest one if exponents had no end.
func valueOf(size int, a uint64) *big.Float {
	switch {
	case isEnd(size, a):
		bits := 128
		if size == 8 {
			bits = 1024
		}
		v := exactly(1)
		v.SetMantExp(v, bits)
		if isMinus(size, a) {
			v.Neg(v)
		}
		return v
	case size == 4:
		return exactly(float64(math.Float32frombits(uint32(a))))
	}
	return exactly(math.Float64frombits(a))
}

func both(size int, l []uint64) []uint64 {
	l = slices.Clone(l)
	for _, a := range slices.Clone(l) {
		l = append(l, a|signOf(size))
	}
	return l
}

// edges are the floats at which something changes, of both signs.
func edges(size int) []uint64 {
	one, least, end, last := oneOf(size), leastOf(size), endOf(size), uint64(fractionBits(size))
	step := least // one exponent more
	return both(size, []uint64{
		0, 1, 2, 3, 5, least/2 - 1, least / 2, least/2 + 1, least - 2, least - 1,
		least, least + 1, least + step - 1, least + step, least + 2*step - 1,
		one - last*step - step, one - last*step - step + 1, one - last*step, one - last*step - 1, one - 2*step,
		one - step, one - 1, one, one + 1, one + 2, one + step/2, one + step - 1, one + step, one + step + step/2, one + 2*step,
		one + last*step - 1, one + last*step, one + last*step + 1, one + last*step + step,
		end - step, end - 2, end - 1, end,
		end + 1, end + step/2 - 1, end + step/2, end + step/2 + 1, end + step - 1,
	})
}

// shortEdges are fewer of them, for triples.
func shortEdges(size int) []uint64 {
	one, least, end := oneOf(size), leastOf(size), endOf(size)
	return both(size, []uint64{0, 1, least - 1, least, 2*least - 1, one - least, one - 1, one, one + 1, one + least/2, end - 1, end, end + 1, end + least/2 + 1})
}

// rowsOf are all rows of so many of the floats.
func rowsOf(size, args int, l []uint64) [][3]uint64 {
	var rows [][3]uint64
	for _, a := range l {
		if args == 1 {
			rows = append(rows, [3]uint64{a})
			continue
		}
		for _, b := range l {
			if args == 2 {
				rows = append(rows, [3]uint64{a, b})
				continue
			}
			for _, c := range l {
				rows = append(rows, [3]uint64{a, b, c})
			}
		}
	}
	return rows
}

// dice are numbers that look like chance and are the same ones each time.
type dice uint64

func (d *dice) next() uint64 {
	*d += 0x9e3779b97f4a7c15
	x := uint64(*d)
	x = (x ^ x>>30) * 0xbf58476d1ce4e5b9
	x = (x ^ x>>27) * 0x94d049bb133111eb
	return x ^ x>>31
}

func (d *dice) below(n int) int { return int(d.next() % uint64(n)) }
