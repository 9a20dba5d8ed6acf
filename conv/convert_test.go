package conv_test

import (
	"math"
	"math/big"
	"testing"

	"tandem/conv"
)

// power is two to the n.
func power(n int) *big.Float {
	return new(big.Float).SetPrec(4096).SetMantExp(big.NewFloat(1), n)
}

// narrowed is what P2.5 says of a finite float of 8 bytes that becomes one of 4, by chapter 1's words.
func narrowed(rm int, v *big.Float) (uint64, int) {
	if v.Sign() == 0 {
		f, _ := v.Float64()
		return ofNative(4, f), 0
	}
	mode := roundings()[rm]
	// With 24 bits, and with an exponent that has no ends.
	r := new(big.Float).SetPrec(24).SetMode(mode).Set(v)
	far := new(big.Float).Abs(r)
	if far.Cmp(power(128)) >= 0 {
		sign := uint64(0)
		if v.Sign() < 0 {
			sign = signOf(4)
		}
		if rm == 1 || rm == 2 && sign == 0 || rm == 3 && sign != 0 {
			return sign | endOf(4) - 1, inexact | overflow
		}
		return sign | endOf(4), inexact | overflow
	}
	flags := 0
	if far.Cmp(power(-126)) < 0 {
		flags = underflow
	}
	if new(big.Float).Abs(v).Cmp(power(-126)) < 0 {
		r = subnormal(mode, v)
	}
	f, _ := r.Float64()
	if r.Cmp(v) == 0 {
		return ofNative(4, f), 0
	}
	return ofNative(4, math.Copysign(f, float64(v.Sign()))), inexact | flags
}

// subnormal rounds what is below the least normal one: its last bit is that of the least normal one, so it is rounded as that one's sum with it.
func subnormal(mode big.RoundingMode, v *big.Float) *big.Float {
	least := power(-126)
	if v.Sign() < 0 {
		least.Neg(least)
	}
	sum := new(big.Float).SetPrec(4096).Add(least, v)
	r := new(big.Float).SetPrec(24).SetMode(mode).Set(sum)
	return new(big.Float).SetPrec(4096).Sub(r, least)
}

// convert is what P2.5 says.
func convert(size, rm int, a uint64) (uint64, int) {
	from := 12 - size
	switch {
	case isSignalling(from, a):
		return quietOf(size), invalid
	case isNone(from, a):
		return quietOf(size), 0
	case isEnd(from, a) && isMinus(from, a):
		return signOf(size) | endOf(size), 0
	case isEnd(from, a):
		return endOf(size), 0
	case size == 8:
		return ofNative(8, native(4, a)), 0
	}
	return narrowed(rm, exactly(8, a))
}

// narrow are floats of 8 bytes at which those of 4 bytes change: at and beside these, and at and beside the middles between two of them.
func narrow(count int) []uint64 {
	d := dice(3)
	at := edges(4)
	for range count {
		at = append(at, d.any(4))
	}
	var l []uint64
	for _, a := range at {
		if far(4, a) >= endOf(4) {
			continue
		}
		v, next := native(4, a), native(4, a+1)
		if far(4, a)+1 == endOf(4) {
			next = 2 * native(4, a&signOf(4)|(endOf(4)-1<<23)) // where the next one would stand
		}
		for _, b := range []uint64{math.Float64bits(v), math.Float64bits(v + (next-v)/2)} {
			l = append(l, b, b+1)
			if far(8, b) != 0 {
				l = append(l, b-1)
			}
		}
	}
	return l
}

func tryConvert(t *testing.T, size int, l []uint64) {
	t.Helper()
	for _, a := range l {
		for rm := range 5 {
			want, flags := convert(size, rm, a)
			if r, f := conv.Convert(size, rm, a); r != want || f != flags {
				t.Fatalf("Convert %d %d %x: %x, %#x; want %x, %#x", size, rm, a, r, f, want, flags)
			}
		}
	}
}

// P2.5 to 4 bytes.
func TestNarrow(t *testing.T) {
	tryConvert(t, 4, narrow(5000))
	tryConvert(t, 4, floats(8, 5000))
	d := dice(5)
	var l []uint64
	for range 5000 {
		l = append(l, d.among(8, -160, 36), d.among(8, 120, 12))
	}
	tryConvert(t, 4, l)
}

// P2.5 to 8 bytes, which is exact.
func TestWiden(t *testing.T) {
	tryConvert(t, 8, floats(4, 20000))
}

// P2.5: an overflow, and an underflow, in each mode and of each sign.
func TestNarrowBeyond(t *testing.T) {
	const minus4, minus8 = 1 << 31, 1 << 63
	for _, c := range []struct {
		a     uint64
		above [5]uint64
		below [5]uint64
		flags int
	}{
		{0x7fefffffffffffff, [5]uint64{0x7f800000, 0x7f7fffff, 0x7f7fffff, 0x7f800000, 0x7f800000}, [5]uint64{0x7f800000, 0x7f7fffff, 0x7f800000, 0x7f7fffff, 0x7f800000}, 5},
		{0x47f0000000000000, [5]uint64{0x7f800000, 0x7f7fffff, 0x7f7fffff, 0x7f800000, 0x7f800000}, [5]uint64{0x7f800000, 0x7f7fffff, 0x7f800000, 0x7f7fffff, 0x7f800000}, 5},
		{1, [5]uint64{0, 0, 0, 1, 0}, [5]uint64{0, 0, 1, 0, 0}, 3},
		{0x3690000000000000, [5]uint64{0, 0, 0, 1, 1}, [5]uint64{0, 0, 1, 0, 1}, 3},
		{0x3690000000000001, [5]uint64{1, 0, 0, 1, 1}, [5]uint64{1, 0, 1, 0, 1}, 3},
		{0x36a0000000000000, [5]uint64{1, 1, 1, 1, 1}, [5]uint64{1, 1, 1, 1, 1}, 0},
		{0x36a8000000000000, [5]uint64{2, 1, 1, 2, 2}, [5]uint64{2, 1, 2, 1, 2}, 3},
	} {
		for rm := range 5 {
			if r, f := conv.Convert(4, rm, c.a); r != c.above[rm] || f != c.flags {
				t.Errorf("Convert 4 %d %x: %x, %#x; want %x, %#x", rm, c.a, r, f, c.above[rm], c.flags)
			}
			if r, f := conv.Convert(4, rm, minus8|c.a); r != minus4|c.below[rm] || f != c.flags {
				t.Errorf("Convert 4 %d %x: %x, %#x; want %x, %#x", rm, minus8|c.a, r, f, minus4|c.below[rm], c.flags)
			}
		}
	}
	// Of what comes to the least normal one only that is no underflow which would also with all of a normal one's bits.
	for _, c := range [][4]uint64{
		{0, 0x380fffffffffffff, 0x00800000, 1}, {0, 0x380ffffff0000000, 0x00800000, 1}, {0, 0x380fffffefffffff, 0x00800000, 3}, {0, 0x380fffffe0000000, 0x00800000, 3},
		{0, 0x380fffffc0000000, 0x007fffff, 0}, {0, 0x380fffffc0000001, 0x007fffff, 3}, {1, 0x380fffffffffffff, 0x007fffff, 3}, {3, 0x380fffffe0000001, 0x00800000, 1},
		{3, 0x380fffffe0000000, 0x00800000, 3}, {4, 0x380ffffff0000000, 0x00800000, 1}, {4, 0x380fffffefffffff, 0x00800000, 3}, {0, 0x3810000000000000, 0x00800000, 0}, {0, 0x3810000000000001, 0x00800000, 1},
	} {
		if r, f := conv.Convert(4, int(c[0]), c[1]); r != c[2] || f != int(c[3]) {
			t.Errorf("Convert 4 %d %x: %x, %#x; want %x, %#x", c[0], c[1], r, f, c[2], c[3])
		}
	}
}

// P2.5: what is no number, the infinities and the noughts, in every mode.
func TestConvertWhatIsNoValue(t *testing.T) {
	for _, size := range sizes() {
		from := 12 - size
		end, sign := endOf(from), signOf(from)
		for _, c := range []struct {
			a, want uint64
			flags   int
		}{
			{end + 1, quietOf(size), invalid}, {sign | end + 1, quietOf(size), invalid}, {quietOf(from) - 1, quietOf(size), invalid},
			{quietOf(from), quietOf(size), 0}, {sign | quietOf(from), quietOf(size), 0}, {sign | sign - 1, quietOf(size), 0},
			{end, endOf(size), 0}, {sign | end, signOf(size) | endOf(size), 0}, {0, 0, 0}, {sign, signOf(size), 0},
		} {
			for rm := range 5 {
				if r, f := conv.Convert(size, rm, c.a); r != c.want || f != c.flags {
					t.Errorf("Convert %d %d %x: %x, %#x; want %x, %#x", size, rm, c.a, r, f, c.want, c.flags)
				}
			}
		}
	}
}

// The values that the tests go by are held against the machine's own in mode 0.
func TestConvertOfTheMachine(t *testing.T) {
	for _, a := range append(narrow(5000), floats(8, 5000)...) {
		if isNone(8, a) {
			continue
		}
		want := uint64(math.Float32bits(float32(native(8, a))))
		if r, _ := conv.Convert(4, 0, a); r != want {
			t.Fatalf("Convert 4 0 %x: %x; want %x", a, r, want)
		}
	}
}
