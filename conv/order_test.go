package conv_test

import (
	"math"
	"slices"
	"testing"

	"tandem/api"
	"tandem/conv"
)

// few are floats of all kinds, few enough for all pairs.
func few(size int) []uint64 {
	end, step, one := endOf(size), uint64(1)<<fractionBits(size), oneOf(size)
	l := both(size, []uint64{
		0, 1, 2, step/2 + 1, step - 1, step, step + 1, 2 * step, one - step, one - 1, one, one + 1, one + step/2, one + step, one + 40*step,
		end - step, end - 2, end - 1, end, end + 1, end + step/2 - 1, end + step/2, end + step/2 + 1, end + step - 1,
	})
	d := dice(size)
	for range 40 {
		l = append(l, d.any(size), d.among(size, -2, 4))
	}
	return l
}

// pairs goes through all pairs of some floats, and pairs of neighbours.
func pairs(size int, f func(a, b uint64)) {
	l := few(size)
	for _, a := range l {
		for _, b := range l {
			f(a, b)
		}
	}
	for _, a := range floats(size, 500) {
		f(a, a+1)
		f(a, a^signOf(size))
	}
}

// P2.2, beside the examples: the low word is all that counts in Box, and the high one tells in Unbox.
func TestBoxes(t *testing.T) {
	d := dice(9)
	l := []uint64{0, 1, 1 << 31, 1<<32 - 1, 1 << 32, 1 << 63, math.MaxUint64, 0xffffffff00000000, 0xffffffff7f800001}
	for range 1000 {
		l = append(l, d.next())
	}
	for _, a := range l {
		if r := conv.Box(a); uint32(r) != uint32(a) || r>>32 != 0xffffffff {
			t.Errorf("Box %x: %x", a, r)
		}
		if r := conv.Unbox(0xffffffff<<32 | a); r != uint64(uint32(a)) {
			t.Errorf("Unbox of a boxed %x: %x", a, r)
		}
		for bit := 32; bit < 64; bit++ {
			broken := (0xffffffff<<32 | a) &^ (1 << bit)
			if r := conv.Unbox(broken); r != 0x7fc00000 {
				t.Errorf("Unbox %x: %x", broken, r)
			}
		}
		if a>>32 != 0xffffffff {
			if r := conv.Unbox(a); r != 0x7fc00000 {
				t.Errorf("Unbox %x: %x", a, r)
			}
		}
	}
}

// P2.6, whatever floats they are.
func TestSign(t *testing.T) {
	for _, size := range sizes() {
		pairs(size, func(a, b uint64) {
			minus := isMinus(size, b)
			for kind, want := range map[int]bool{api.FSgnj: minus, api.FSgnjn: !minus, api.FSgnjx: minus != isMinus(size, a)} {
				r := conv.Sign(kind, size, a, b)
				if far(size, r) != far(size, a) || isMinus(size, r) != want || size == 4 && r>>32 != 0 {
					t.Fatalf("Sign %d %d %x %x: %x", kind, size, a, b, r)
				}
			}
		})
	}
}

// lesser tells whether one number is below another one, -0 being below 0.
func lesser(size int, a, b uint64) bool {
	v, w := native(size, a), native(size, b)
	return v < w || v == w && math.Signbit(v) && !math.Signbit(w)
}

// pick is what P2.7 says.
func pick(kind, size int, a, b uint64) (uint64, int) {
	flags := 0
	if isSignalling(size, a) || isSignalling(size, b) {
		flags = invalid
	}
	switch {
	case isNone(size, a) && isNone(size, b):
		return quietOf(size), flags
	case isNone(size, a):
		return b, flags
	case isNone(size, b):
		return a, flags
	case kind == api.FMin && lesser(size, b, a) || kind == api.FMax && lesser(size, a, b):
		return b, flags
	}
	return a, flags
}

// P2.7.
func TestPick(t *testing.T) {
	for _, size := range sizes() {
		pairs(size, func(a, b uint64) {
			a, b = far(size, a)|a&signOf(size), far(size, b)|b&signOf(size)
			for _, kind := range []int{api.FMin, api.FMax} {
				want, flags := pick(kind, size, a, b)
				if r, f := conv.Pick(kind, size, a, b); r != want || f != flags {
					t.Fatalf("Pick %d %d %x %x: %x, %#x; want %x, %#x", kind, size, a, b, r, f, want, flags)
				}
			}
		})
	}
}

// P2.7: -0 is less than 0, whichever comes first.
func TestPickOfNoughts(t *testing.T) {
	for _, size := range sizes() {
		minus := signOf(size)
		for _, c := range []struct {
			kind       int
			a, b, want uint64
		}{
			{api.FMin, 0, minus, minus}, {api.FMin, minus, 0, minus}, {api.FMax, 0, minus, 0}, {api.FMax, minus, 0, 0},
			{api.FMin, 0, 0, 0}, {api.FMax, minus, minus, minus}, {api.FMin, minus, minus, minus}, {api.FMax, minus, minus | 1, minus},
		} {
			if r, f := conv.Pick(c.kind, size, c.a, c.b); r != c.want || f != 0 {
				t.Errorf("Pick %d %d %x %x: %x, %#x; want %x, 0", c.kind, size, c.a, c.b, r, f, c.want)
			}
		}
	}
}

// compare is what P2.8 says.
func compare(kind, size int, a, b uint64) (uint64, int) {
	if isNone(size, a) || isNone(size, b) {
		if kind != api.FEq || isSignalling(size, a) || isSignalling(size, b) {
			return 0, invalid
		}
		return 0, 0
	}
	v, w := native(size, a), native(size, b)
	if kind == api.FEq && v == w || kind == api.FLt && v < w || kind == api.FLe && v <= w {
		return 1, 0
	}
	return 0, 0
}

// P2.8.
func TestCompare(t *testing.T) {
	for _, size := range sizes() {
		pairs(size, func(a, b uint64) {
			for _, kind := range []int{api.FEq, api.FLt, api.FLe} {
				want, flags := compare(kind, size, a, b)
				if r, f := conv.Compare(kind, size, a, b); r != want || f != flags {
					t.Fatalf("Compare %d %d %x %x: %x, %#x; want %x, %#x", kind, size, a, b, r, f, want, flags)
				}
			}
		})
	}
}

// bitOf is what P2.9 says.
func bitOf(size int, a uint64) int {
	least := math.Ldexp(1, 2-1<<(8*size-2-fractionBits(size)))
	v := native(size, a)
	switch {
	case isSignalling(size, a):
		return 8
	case isNone(size, a):
		return 9
	}
	bit := 0
	switch {
	case math.IsInf(v, 0):
		bit = 7
	case math.Abs(v) >= least:
		bit = 6
	case v != 0:
		bit = 5
	default:
		bit = 4
	}
	if math.Signbit(v) {
		return 7 - bit
	}
	return bit
}

// P2.9.
func TestClass(t *testing.T) {
	for _, size := range sizes() {
		for _, a := range slices.Concat(few(size), floats(size, 1000)) {
			if c := conv.Class(size, a); c != 1<<bitOf(size, a) {
				t.Fatalf("Class %d %x: %x; want %x", size, a, c, 1<<bitOf(size, a))
			}
		}
	}
}

// P2.9: one of each, in the order of their bits.
func TestEachClass(t *testing.T) {
	for _, size := range sizes() {
		end, step, sign := endOf(size), uint64(1)<<fractionBits(size), signOf(size)
		for bit, l := range [][]uint64{
			{sign | end}, {sign | step, sign | end - 1, sign | oneOf(size)}, {sign | 1, sign | step - 1}, {sign}, {0},
			{1, step - 1}, {step, end - 1, oneOf(size)}, {end}, {end + 1, sign | end + 1, end + step/2 - 1, sign | end + step/2 - 1},
			{end + step/2, sign | end + step/2, sign - 1, sign | sign - 1},
		} {
			for _, a := range l {
				if c := conv.Class(size, a); c != 1<<bit {
					t.Errorf("Class %d %x: %x; want %x", size, a, c, 1<<bit)
				}
			}
		}
	}
}
