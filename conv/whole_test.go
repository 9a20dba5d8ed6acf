package conv_test

import (
	"math"
	"math/big"
	"testing"

	"tandem/conv"
)

// span is a range of whole numbers.
type span struct {
	word, unsigned bool
}

func spans() []span { return []span{{false, false}, {false, true}, {true, false}, {true, true}} }

// ends are the lowest and the highest number.
func (s span) ends() (*big.Int, *big.Int) {
	bits := uint(64)
	if s.word {
		bits = 32
	}
	if s.unsigned {
		high := new(big.Int).Lsh(big.NewInt(1), bits)
		return new(big.Int), high.Sub(high, big.NewInt(1))
	}
	high := new(big.Int).Lsh(big.NewInt(1), bits-1)
	return new(big.Int).Neg(high), high.Sub(high, big.NewInt(1))
}

// held is the number as a register has it.
func (s span) held(n *big.Int) uint64 {
	mask := new(big.Int).SetUint64(math.MaxUint64)
	x := new(big.Int).And(n, mask).Uint64()
	if s.word {
		return uint64(int64(int32(x)))
	}
	return x
}

// wholeOf is the whole number that a finite value is rounded to.
func wholeOf(rm int, v *big.Float) *big.Int {
	down, _ := v.Int(nil)
	if new(big.Float).SetPrec(4096).SetInt(down).Cmp(v) > 0 {
		down.Sub(down, big.NewInt(1))
	}
	up := new(big.Int).Add(down, big.NewInt(1))
	rest := new(big.Float).SetPrec(4096).SetInt(down)
	rest.Sub(v, rest)
	if rest.Sign() == 0 {
		return down
	}
	toHalf := rest.Cmp(big.NewFloat(0.5))
	isUp := false
	switch rm {
	case 0:
		isUp = toHalf > 0 || toHalf == 0 && down.Bit(0) != 0
	case 1:
		isUp = v.Sign() < 0
	case 3:
		isUp = true
	case 4:
		isUp = toHalf > 0 || toHalf == 0 && v.Sign() > 0
	}
	if isUp {
		return up
	}
	return down
}

// toInt is what P2.3 says.
func toInt(size, rm int, s span, a uint64) (uint64, int) {
	low, high := s.ends()
	switch {
	case isNone(size, a) || isEnd(size, a) && !isMinus(size, a):
		return s.held(high), invalid
	case isEnd(size, a):
		return s.held(low), invalid
	}
	v := exactly(size, a)
	n := wholeOf(rm, v)
	switch {
	case n.Cmp(low) < 0:
		return s.held(low), invalid
	case n.Cmp(high) > 0:
		return s.held(high), invalid
	case new(big.Float).SetPrec(4096).SetInt(n).Cmp(v) != 0:
		return s.held(n), inexact
	}
	return s.held(n), 0
}

// P2.3 in all sizes, modes and ranges.
func TestToInt(t *testing.T) {
	for _, size := range sizes() {
		for _, a := range floats(size, 1000) {
			for rm := range 5 {
				for _, s := range spans() {
					want, flags := toInt(size, rm, s, a)
					if n, f := conv.ToInt(size, rm, s.word, s.unsigned, a); n != want || f != flags {
						t.Fatalf("ToInt %d %d %v %x: %x, %#x; want %x, %#x", size, rm, s, a, n, f, want, flags)
					}
				}
			}
		}
	}
}

// P2.3: whether a number is in the range hangs on what it is rounded to.
func TestEndsOfRanges(t *testing.T) {
	const low32, high32, ones = 0xffffffff80000000, 0x7fffffff, math.MaxUint64
	for _, c := range []struct {
		s     span
		a     float64
		want  [5]uint64
		flags [5]int
	}{
		{span{true, false}, 1<<31 - 1, [5]uint64{high32, high32, high32, high32, high32}, [5]int{}},
		{span{true, false}, 1<<31 - 0.75, [5]uint64{high32, high32, high32, high32, high32}, [5]int{1, 1, 1, 16, 1}},
		{span{true, false}, 1<<31 - 0.5, [5]uint64{high32, high32, high32, high32, high32}, [5]int{16, 1, 1, 16, 16}},
		{span{true, false}, 1 << 31, [5]uint64{high32, high32, high32, high32, high32}, [5]int{16, 16, 16, 16, 16}},
		{span{true, false}, -1 << 31, [5]uint64{low32, low32, low32, low32, low32}, [5]int{}},
		{span{true, false}, -1<<31 - 0.5, [5]uint64{low32, low32, low32, low32, low32}, [5]int{1, 1, 16, 1, 16}},
		{span{true, false}, -1<<31 - 1, [5]uint64{low32, low32, low32, low32, low32}, [5]int{16, 16, 16, 16, 16}},
		{span{true, true}, 1<<32 - 1, [5]uint64{ones, ones, ones, ones, ones}, [5]int{}},
		{span{true, true}, 1<<32 - 0.5, [5]uint64{ones, ones, ones, ones, ones}, [5]int{16, 1, 1, 16, 16}},
		{span{true, true}, 1 << 32, [5]uint64{ones, ones, ones, ones, ones}, [5]int{16, 16, 16, 16, 16}},
		{span{true, true}, 1 << 31, [5]uint64{low32, low32, low32, low32, low32}, [5]int{}},
		{span{true, true}, -0.25, [5]uint64{}, [5]int{1, 1, 16, 1, 1}},
		{span{true, true}, -0.5, [5]uint64{}, [5]int{1, 1, 16, 1, 16}},
		{span{false, true}, -0.75, [5]uint64{}, [5]int{16, 1, 16, 1, 16}},
		{span{false, true}, -1, [5]uint64{}, [5]int{16, 16, 16, 16, 16}},
		{span{false, true}, math.SmallestNonzeroFloat64, [5]uint64{0, 0, 0, 1, 0}, [5]int{1, 1, 1, 1, 1}},
		{span{false, true}, -math.SmallestNonzeroFloat64, [5]uint64{}, [5]int{1, 1, 16, 1, 1}},
		{span{false, false}, -math.SmallestNonzeroFloat64, [5]uint64{0, 0, ones, 0, 0}, [5]int{1, 1, 1, 1, 1}},
		{span{false, false}, 1 << 63, [5]uint64{ones / 2, ones / 2, ones / 2, ones / 2, ones / 2}, [5]int{16, 16, 16, 16, 16}},
		{span{false, false}, -1 << 63, [5]uint64{1 << 63, 1 << 63, 1 << 63, 1 << 63, 1 << 63}, [5]int{}},
		{span{false, true}, 1 << 64, [5]uint64{ones, ones, ones, ones, ones}, [5]int{16, 16, 16, 16, 16}},
		{span{false, true}, math.MaxFloat64, [5]uint64{ones, ones, ones, ones, ones}, [5]int{16, 16, 16, 16, 16}},
		{span{false, false}, -math.MaxFloat64, [5]uint64{1 << 63, 1 << 63, 1 << 63, 1 << 63, 1 << 63}, [5]int{16, 16, 16, 16, 16}},
		{span{false, true}, math.Copysign(0, -1), [5]uint64{}, [5]int{}},
	} {
		for rm := range 5 {
			if n, f := conv.ToInt(8, rm, c.s.word, c.s.unsigned, math.Float64bits(c.a)); n != c.want[rm] || f != c.flags[rm] {
				t.Errorf("ToInt 8 %d %v %v: %x, %#x; want %x, %#x", rm, c.s, c.a, n, f, c.want[rm], c.flags[rm])
			}
		}
	}
}

// P2.3: infinities come to the nearer end, and what is no number to the upper one.
func TestToIntOfWhatIsNotFinite(t *testing.T) {
	for _, size := range sizes() {
		end, sign := endOf(size), signOf(size)
		for i, s := range spans() {
			low := []uint64{1 << 63, 0, 0xffffffff80000000, 0}[i]
			high := []uint64{1<<63 - 1, math.MaxUint64, 0x7fffffff, math.MaxUint64}[i]
			for a, want := range map[uint64]uint64{end: high, sign | end: low, end + 1: high, sign | end + 1: high, quietOf(size): high, sign | quietOf(size): high, sign | sign - 1: high} {
				for rm := range 5 {
					if n, f := conv.ToInt(size, rm, s.word, s.unsigned, a); n != want || f != invalid {
						t.Errorf("ToInt %d %d %v %x: %x, %#x; want %x, %#x", size, rm, s, a, n, f, want, invalid)
					}
				}
			}
		}
	}
}

// fromInt is what P2.4 says.
func fromInt(size, rm int, s span, x uint64) (uint64, int) {
	n := new(big.Int)
	switch {
	case s.word && s.unsigned:
		n.SetUint64(uint64(uint32(x)))
	case s.word:
		n.SetInt64(int64(int32(x)))
	case s.unsigned:
		n.SetUint64(x)
	default:
		n.SetInt64(int64(x))
	}
	r := new(big.Float).SetPrec(uint(fractionBits(size) + 1)).SetMode(roundings()[rm]).SetInt(n)
	f, _ := r.Float64()
	if r.Acc() != big.Exact {
		return ofNative(size, f), inexact
	}
	return ofNative(size, f), 0
}

// P2.4 in all sizes, modes and ranges.
func TestFromInt(t *testing.T) {
	for _, size := range sizes() {
		for _, x := range wholes(5000) {
			for rm := range 5 {
				for _, s := range spans() {
					want, flags := fromInt(size, rm, s, x)
					if a, f := conv.FromInt(size, rm, s.word, s.unsigned, x); a != want || f != flags {
						t.Fatalf("FromInt %d %d %v %x: %x, %#x; want %x, %#x", size, rm, s, x, a, f, want, flags)
					}
				}
			}
		}
	}
}

// P2.4: 0 is the nought 0 in every mode, also where only the low word is 0; and of a word no more than that is looked at.
func TestFromIntOfWords(t *testing.T) {
	for _, size := range sizes() {
		for rm := range 5 {
			for _, s := range spans() {
				if a, f := conv.FromInt(size, rm, s.word, s.unsigned, 0); a != 0 || f != 0 {
					t.Errorf("FromInt %d %d %v 0: %x, %#x", size, rm, s, a, f)
				}
				if !s.word {
					continue
				}
				for _, x := range []uint64{0, 1, 0x7fffffff, 0x80000000, 0xffffffff, 0x01000001} {
					want, flags := fromInt(size, rm, s, x)
					for _, high := range []uint64{1 << 32, 1 << 63, 0xffffffff << 32} {
						if a, f := conv.FromInt(size, rm, s.word, s.unsigned, high|x); a != want || f != flags {
							t.Errorf("FromInt %d %d %v %x: %x, %#x; want %x, %#x", size, rm, s, high|x, a, f, want, flags)
						}
					}
				}
			}
		}
	}
}

// The values that the tests go by are held against the machine's own, where it has the conversion.
func TestWholesOfTheMachine(t *testing.T) {
	for _, x := range wholes(5000) {
		for size, f := range map[int]func(x uint64, unsigned bool) uint64{
			4: func(x uint64, unsigned bool) uint64 {
				if unsigned {
					return uint64(math.Float32bits(float32(x)))
				}
				return uint64(math.Float32bits(float32(int64(x))))
			},
			8: func(x uint64, unsigned bool) uint64 {
				if unsigned {
					return math.Float64bits(float64(x))
				}
				return math.Float64bits(float64(int64(x)))
			},
		} {
			for _, unsigned := range []bool{false, true} {
				if a, _ := conv.FromInt(size, 0, false, unsigned, x); a != f(x, unsigned) {
					t.Fatalf("FromInt %d 0 %v %x: %x; want %x", size, unsigned, x, a, f(x, unsigned))
				}
			}
		}
	}
	for _, size := range sizes() {
		for _, a := range floats(size, 5000) {
			v := native(size, a)
			if !(math.Abs(v) < 1<<62) {
				continue
			}
			for rm, round := range []func(float64) float64{math.RoundToEven, math.Trunc, math.Floor, math.Ceil, math.Round} {
				want := uint64(int64(round(v)))
				if n, _ := conv.ToInt(size, rm, false, false, a); n != want {
					t.Fatalf("ToInt %d %d %x: %x; want %x", size, rm, a, n, want)
				}
			}
		}
	}
}
