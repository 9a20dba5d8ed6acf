package conv_test

import (
	"testing"

	"tandem/api"
	"tandem/conv"
	"tandem/soft"
)

// P2.10: Unbox of Box is the low word.
func TestUnboxOfBox(t *testing.T) {
	d := dice(11)
	for range 2000 {
		a := d.next()
		if r := conv.Unbox(conv.Box(a)); r != uint64(uint32(a)) {
			t.Fatalf("Unbox of Box of %x: %x", a, r)
		}
	}
}

// P2.10: of numbers that have room FromInt and ToInt give back.
func TestWholesThereAndBack(t *testing.T) {
	for _, size := range sizes() {
		for _, x := range wholes(5000) {
			for _, s := range spans() {
				for rm := range 5 {
					a, f := conv.FromInt(size, rm, s.word, s.unsigned, x)
					if f != 0 {
						continue
					}
					want := x
					if s.word {
						want = uint64(int64(int32(x)))
					}
					if n, f := conv.ToInt(size, rm, s.word, s.unsigned, a); n != want || f != 0 {
						t.Fatalf("ToInt of FromInt %d %d %v %x: %x, %#x", size, rm, s, x, n, f)
					}
				}
			}
		}
		// All that have no more bits than a float has room for do have it.
		d := dice(size)
		for range 2000 {
			x := d.next() >> (63 - fractionBits(size)) >> d.below(20)
			if _, f := conv.FromInt(size, 0, false, d.below(2) == 0, x); f != 0 {
				t.Fatalf("FromInt %d of %x: flags %#x", size, x, f)
			}
		}
	}
}

// P2.10: Convert to 8 bytes is exact, and back again, in any mode; what is no number is the quiet one.
func TestFloatsThereAndBack(t *testing.T) {
	for _, a := range floats(4, 20000) {
		for rm := range 5 {
			b, f := conv.Convert(8, rm, a)
			want, flags := far(4, a)|a&signOf(4), 0
			if isNone(4, a) {
				want = quietOf(4)
			}
			if isSignalling(4, a) {
				flags = invalid
			}
			if f != flags {
				t.Fatalf("Convert 8 %d %x: flags %#x; want %#x", rm, a, f, flags)
			}
			if c, f := conv.Convert(4, 4-rm, b); c != want || f != 0 {
				t.Fatalf("Convert 4 %d of Convert 8 %x: %x, %#x; want %x, 0", 4-rm, a, c, f, want)
			}
		}
	}
}

// P2.10: just one of FLt of a and b, FLt of b and a, and FEq is 1, if both are numbers; and none, if one isn't.
func TestJustOne(t *testing.T) {
	for _, size := range sizes() {
		pairs(size, func(a, b uint64) {
			below, _ := conv.Compare(api.FLt, size, a, b)
			above, _ := conv.Compare(api.FLt, size, b, a)
			equal, _ := conv.Compare(api.FEq, size, a, b)
			want := uint64(1)
			if isNone(size, a) || isNone(size, b) {
				want = 0
			}
			if below+above+equal != want {
				t.Fatalf("%d: %x and %x: below %d, above %d, equal %d", size, a, b, below, above, equal)
			}
		})
	}
}

// W7, with layer 1: a product of two floats of 4 bytes is exact with 8, so that turned back to 4 it is rounded once; so is a sum whose parts are not too far from each other.
func TestTurnedBackFromExact(t *testing.T) {
	l := few(4)
	d := dice(13)
	for range 200 {
		l = append(l, d.any(4))
	}
	for _, a := range l {
		for _, b := range l {
			if isNone(4, a) || isNone(4, b) {
				continue
			}
			for rm := range 5 {
				x, _ := conv.Convert(8, rm, a)
				y, _ := conv.Convert(8, rm, b)
				turnBack(t, "Mul", rm, a, b, x, y, soft.Mul)
				turnBack(t, "Add", rm, a, b, x, y, soft.Add)
			}
		}
	}
}

// turnBack holds an operation of 4 bytes against that of 8 turned to 4, where the latter is exact.
func turnBack(t *testing.T, name string, rm int, a, b, x, y uint64, do func(size, rm int, a, b uint64) (uint64, int)) {
	t.Helper()
	exact, f := do(8, rm, x, y)
	if f != 0 {
		return
	}
	want, flags := do(4, rm, a, b)
	if r, f := conv.Convert(4, rm, exact); r != want || f != flags {
		t.Fatalf("%s %d %x %x, turned back from 8 bytes: %x, %#x; want %x, %#x", name, rm, a, b, r, f, want, flags)
	}
}
