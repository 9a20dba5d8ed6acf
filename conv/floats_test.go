package conv_test

import (
	"math"
	"math/big"
	"slices"
)

// The flags.
const (
	inexact   = 1
	underflow = 2
	overflow  = 4
	invalid   = 16
)

func sizes() []int { return []int{4, 8} }

func fractionBits(size int) int {
	if size == 4 {
		return 23
	}
	return 52
}

func signOf(size int) uint64 { return 1 << (8*size - 1) }

func endOf(size int) uint64 {
	if size == 4 {
		return 0x7f800000
	}
	return 0x7ff0000000000000
}

func quietOf(size int) uint64 {
	if size == 4 {
		return 0x7fc00000
	}
	return 0x7ff8000000000000
}

func oneOf(size int) uint64 {
	if size == 4 {
		return 0x3f800000
	}
	return 0x3ff0000000000000
}

// far is the float without its sign.
func far(size int, a uint64) uint64 { return a & (signOf(size) - 1) }

func isMinus(size int, a uint64) bool { return a&signOf(size) != 0 }

func isNone(size int, a uint64) bool { return far(size, a) > endOf(size) }

func isSignalling(size int, a uint64) bool {
	return isNone(size, a) && a>>(fractionBits(size)-1)&1 == 0
}

func isEnd(size int, a uint64) bool { return far(size, a) == endOf(size) }

func isNought(size int, a uint64) bool { return far(size, a) == 0 }

// native is the float as the machine has it.
func native(size int, a uint64) float64 {
	if size == 4 {
		return float64(math.Float32frombits(uint32(a)))
	}
	return math.Float64frombits(a)
}

// ofNative is the float of a size that one of the machine's is, which has room in it.
func ofNative(size int, f float64) uint64 {
	if size == 4 {
		return uint64(math.Float32bits(float32(f)))
	}
	return math.Float64bits(f)
}

// exactly is a finite float in real numbers, with room for what is summed to it.
func exactly(size int, a uint64) *big.Float {
	return new(big.Float).SetPrec(4096).SetFloat64(native(size, a))
}

// roundings are the modes, as the library names them.
func roundings() []big.RoundingMode {
	return []big.RoundingMode{big.ToNearestEven, big.ToZero, big.ToNegativeInf, big.ToPositiveInf, big.ToNearestAway}
}

func both(size int, l []uint64) []uint64 {
	l = slices.Clone(l)
	for _, a := range slices.Clone(l) {
		l = append(l, a|signOf(size))
	}
	return l
}

// edges are the floats at which something changes, of both signs.
func edges(size int) []uint64 {
	end, step := endOf(size), uint64(1)<<fractionBits(size)
	l := []uint64{
		0, 1, 2, 3, step/2 - 1, step / 2, step/2 + 1, step - 2, step - 1, step, step + 1, 2*step - 1, 2 * step,
		end - step, end - 2, end - 1, end, end + 1, end + 2, end + step/2 - 1, end + step/2, end + step/2 + 1, end + step - 1,
	}
	// The powers of two from a quarter on, and what lies beside them and in the middle.
	for k := range 70 {
		a := oneOf(size) + uint64(k-2)*step
		l = append(l, a-1, a, a+1, a+step/4, a+step/2)
	}
	return both(size, l)
}

// aroundWhole are the floats at, and beside, the middles and quarters between whole numbers.
func aroundWhole(size int) []uint64 {
	var l []uint64
	for k := range 66 {
		for d := -8.0; d <= 8; d++ {
			a := ofNative(size, math.Ldexp(1, k)+d/4)
			l = append(l, a-1, a, a+1)
		}
	}
	for d := range 40 {
		l = append(l, ofNative(size, float64(d)/4))
	}
	return both(size, l)
}

// dice are numbers that look like chance and are the same ones each time.
type dice uint64

func (d *dice) next() uint64 {
	*d += 0x9e3779b97f4a7c15
	x := uint64(*d)
	x = (x ^ x>>30) * 0xbf58476d1ce4e5b9
	x = (x ^ x>>27) * 0x94d049bb133111eb
	return x ^ x>>31
}

func (d *dice) below(n int) int { return int(d.next() % uint64(n)) }

// any is some float, often one with few bits, or with ones alone at the end.
func (d *dice) any(size int) uint64 {
	a := d.next()
	switch d.below(3) {
	case 0:
		a &= ^uint64(0) << d.below(fractionBits(size)+1)
	case 1:
		a |= 1<<d.below(fractionBits(size)+1) - 1
	}
	return a & (signOf(size) | signOf(size) - 1)
}

// among is a float whose exponent is one of so many from a first one on.
func (d *dice) among(size, first, count int) uint64 {
	e := uint64(int(oneOf(size)>>fractionBits(size)) + first + d.below(count))
	return d.any(size)&^endOf(size) | e<<fractionBits(size)
}

// whole is some whole number, its highest bit anywhere, often with few bits.
func (d *dice) whole() uint64 {
	x := d.next() >> d.below(64)
	switch d.below(4) {
	case 0:
		x &= ^uint64(0) << d.below(64)
	case 1:
		x |= 1<<d.below(64) - 1
	case 2:
		x = -x
	}
	return x
}

// floats are those of the edges and as many others as are asked for.
func floats(size, count int) []uint64 {
	d := dice(size)
	l := slices.Concat(edges(size), aroundWhole(size))
	for range count {
		l = append(l, d.any(size), d.among(size, -3, 70))
	}
	return l
}

// wholes are the numbers at the ends of the ranges, beside the powers of two, and others.
func wholes(count int) []uint64 {
	d := dice(1)
	var l []uint64
	for k := range 64 {
		a := uint64(1) << k
		l = append(l, a-2, a-1, a, a+1, a+2, a+a/2, -a, -a-1, -a+1)
	}
	// What lies at, and beside, the middles between two floats of each size.
	for k := 23; k < 64; k++ {
		top := uint64(1) << k
		for _, fraction := range []int{23, 52} {
			last := top >> fraction
			for _, a := range []uint64{top, top + last, top + 2*last, 2*top - last} {
				l = append(l, a+last/2-1, a+last/2, a+last/2+1, -(a + last/2))
			}
		}
	}
	for range count {
		l = append(l, d.whole())
	}
	return l
}
