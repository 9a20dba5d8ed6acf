package conv_test

import (
	"math"
	"slices"
	"testing"

	"tandem/api"
	"tandem/conv"
)

// same holds an answer and its flags against those that are wanted.
func same(t *testing.T, call string, r uint64, f int, want uint64, flags int) {
	t.Helper()
	if r != want || f != flags {
		t.Errorf("%s: %x, %#x; want %x, %#x", call, r, f, want, flags)
	}
}

// The chapter's examples of whole numbers, P2.3 and P2.4.
func TestExamplesOfWholes(t *testing.T) {
	for _, c := range []struct {
		call           string
		size, rm       int
		word, unsigned bool
		a, want        uint64
		flags          int
	}{
		{"2.5", 8, 0, true, false, 0x4004000000000000, 2, 1},
		{"2.5 in mode 4", 8, 4, true, false, 0x4004000000000000, 3, 1},
		{"2.5 in mode 3", 8, 3, true, false, 0x4004000000000000, 3, 1},
		{"-0.5", 4, 1, true, true, 0xbf000000, 0, 1},
		{"-1", 4, 1, true, true, 0xbf800000, 0, 0x10},
		{"2^32", 4, 0, true, true, 0x4f800000, 0xffffffffffffffff, 0x10},
		{"below 2^32", 4, 0, true, true, 0x4f7fffff, 0xffffffffffffff00, 0},
		{"no number", 8, 0, false, false, 0x7ff8000000000000, 0x7fffffffffffffff, 0x10},
		{"infinity below", 8, 0, false, false, 0xfff0000000000000, 0x8000000000000000, 0x10},
	} {
		n, f := conv.ToInt(c.size, c.rm, c.word, c.unsigned, c.a)
		same(t, "ToInt of "+c.call, n, f, c.want, c.flags)
	}
	r, f := conv.FromInt(4, 0, false, false, 0xffffffffffffffff)
	same(t, "FromInt of -1", r, f, 0xbf800000, 0)
	r, f = conv.FromInt(4, 0, false, true, 0xffffffffffffffff)
	same(t, "FromInt of 2^64 - 1", r, f, 0x5f800000, 1)
	r, f = conv.FromInt(8, 0, true, true, 0xffffffff80000000)
	same(t, "FromInt of the word 2^31", r, f, 0x41e0000000000000, 0)
}

// The chapter's other examples, P2.2, P2.5 and P2.7 to P2.9.
func TestExamplesOfFloats(t *testing.T) {
	same(t, "Box", conv.Box(0x3f800000), 0, 0xffffffff3f800000, 0)
	same(t, "Unbox", conv.Unbox(0xffffffff3f800000), 0, 0x3f800000, 0)
	same(t, "Unbox of what is not boxed", conv.Unbox(0x3f800000), 0, 0x7fc00000, 0)
	r, f := conv.Convert(4, 0, 0x3ff0000000000001)
	same(t, "Convert", r, f, 0x3f800000, 1)
	r, f = conv.Convert(4, 0, 0x7ff0000000000001)
	same(t, "Convert of a signalling one", r, f, 0x7fc00000, 0x10)
	r, f = conv.Convert(8, 0, 1)
	same(t, "Convert of the least one", r, f, 0x36a0000000000000, 0)
	r, f = conv.Pick(api.FMin, 4, 0x80000000, 0)
	same(t, "Pick of noughts", r, f, 0x80000000, 0)
	r, f = conv.Pick(api.FMin, 4, 0x7fc00000, 0x3f800000)
	same(t, "Pick of a quiet one", r, f, 0x3f800000, 0)
	r, f = conv.Pick(api.FMin, 4, 0x7f800001, 0x3f800000)
	same(t, "Pick of a signalling one", r, f, 0x3f800000, 0x10)
	r, f = conv.Compare(api.FLt, 4, 0x7fc00000, 0)
	same(t, "FLt of a quiet one", r, f, 0, 0x10)
	r, f = conv.Compare(api.FEq, 4, 0x7fc00000, 0)
	same(t, "FEq of a quiet one", r, f, 0, 0)
	same(t, "Class of -0", conv.Class(4, 0x80000000), 0, 8, 0)
	same(t, "Class of the least one", conv.Class(4, 1), 0, 0x20, 0)
	same(t, "Class of a signalling one", conv.Class(4, 0x7f800001), 0, 0x100, 0)
}

// call is one of the package's functions that take a size; those that take no mode, or no kind, don't look at it.
type call struct {
	name       string
	mode, kind bool
	do         func(size, rm, kind int, a, b uint64) (uint64, int)
}

func calls() []call {
	l := []call{
		{"Convert", true, false, func(size, rm, _ int, a, _ uint64) (uint64, int) { return conv.Convert(size, rm, a) }},
		{"Sign", false, true, func(size, _, kind int, a, b uint64) (uint64, int) { return conv.Sign(kind, size, a, b), 0 }},
		{"Pick", false, true, func(size, _, kind int, a, b uint64) (uint64, int) { return conv.Pick(kind, size, a, b) }},
		{"Compare", false, true, func(size, _, kind int, a, b uint64) (uint64, int) { return conv.Compare(kind, size, a, b) }},
		{"Class", false, false, func(size, _, _ int, a, _ uint64) (uint64, int) { return conv.Class(size, a), 0 }},
	}
	for _, s := range spans() {
		l = append(l,
			call{"ToInt", true, false, func(size, rm, _ int, a, _ uint64) (uint64, int) { return conv.ToInt(size, rm, s.word, s.unsigned, a) }},
			call{"FromInt", true, false, func(size, rm, _ int, a, _ uint64) (uint64, int) { return conv.FromInt(size, rm, s.word, s.unsigned, a) }})
	}
	return l
}

// kindsOf are the kinds that a call names.
func kindsOf(name string) []int {
	switch name {
	case "Sign":
		return []int{api.FSgnj, api.FSgnjn, api.FSgnjx}
	case "Pick":
		return []int{api.FMin, api.FMax}
	case "Compare":
		return []int{api.FEq, api.FLt, api.FLe}
	}
	return []int{0}
}

// someFloats are some of which each call, rightly made, would answer something.
func someFloats() []uint64 {
	return []uint64{0, 1, 0x3f800000, 0xbfc00000, 0x7f800000, 0x7f800001, 0x7fc00000, 0x3ff0000000000001, 0xc004000000000000, 0x7ff0000000000001, 0xfff8000000000000, math.MaxUint64}
}

func wantNothing(t *testing.T, c call, size, rm, kind int) {
	t.Helper()
	for _, a := range someFloats() {
		for _, b := range someFloats() {
			if r, f := c.do(size, rm, kind, a, b); r != 0 || f != 0 {
				t.Fatalf("%s of size %d, mode %d, kind %d, %x, %x: %x, %#x; want 0, 0", c.name, size, rm, kind, a, b, r, f)
			}
		}
	}
}

// P2.1: another size.
func TestWrongSizes(t *testing.T) {
	for _, c := range calls() {
		for _, size := range []int{math.MinInt, -8, -4, -1, 0, 1, 2, 3, 5, 6, 7, 9, 12, 16, 32, 64, 4 + 1<<32, 8 + 1<<32, math.MaxInt} {
			for rm := -1; rm <= 5; rm++ {
				for _, kind := range kindsOf(c.name) {
					wantNothing(t, c, size, rm, kind)
				}
			}
		}
	}
}

// P2.1: another mode.
func TestWrongModes(t *testing.T) {
	for _, c := range calls() {
		if !c.mode {
			continue
		}
		for _, rm := range []int{math.MinInt, -5, -1, 5, 6, 7, 8, 256, 1 << 32, math.MaxInt} {
			for _, size := range sizes() {
				wantNothing(t, c, size, rm, 0)
			}
		}
	}
}

// P2.1: another kind, among them those that another call names.
func TestWrongKinds(t *testing.T) {
	for _, c := range calls() {
		if !c.kind {
			continue
		}
		wrong := []int{math.MinInt, -1, api.Kinds + 1, api.FMin + 1<<32, api.FEq + 1<<32, api.FSgnj + 1<<32, math.MaxInt}
		for kind := range api.Kinds + 1 {
			wrong = append(wrong, kind)
		}
		for _, kind := range wrong {
			if slices.Contains(kindsOf(c.name), kind) {
				continue
			}
			for _, size := range sizes() {
				wantNothing(t, c, size, 0, kind)
			}
		}
	}
}

// DOC.md, 'Words': the high half of a float of 4 bytes is not looked at in arguments, and 0 in answers.
func TestHighHalves(t *testing.T) {
	highs := []uint64{1 << 32, 1 << 63, 0xffffffff << 32, 0x7ff8 << 48, 0x3ff00001 << 32}
	for _, c := range calls() {
		if c.name == "FromInt" {
			continue
		}
		size := 4
		if c.name == "Convert" {
			size = 8 // the size of the answer
		}
		for i, a := range few(4) {
			for _, b := range few(4)[:20] {
				for _, kind := range kindsOf(c.name) {
					rm := i % 5
					want, flags := c.do(size, rm, kind, a, b)
					if c.name != "ToInt" && c.name != "Convert" && want>>32 != 0 {
						t.Fatalf("%s of kind %d, %x, %x: %x has a high half", c.name, kind, a, b, want)
					}
					for j, high := range highs {
						if r, f := c.do(size, rm, kind, a|high, b|highs[(j+2)%len(highs)]); r != want || f != flags {
							t.Fatalf("%s of kind %d, mode %d, %x, %x, with high halves: %x, %#x; want %x, %#x", c.name, kind, rm, a|high, b, r, f, want, flags)
						}
					}
				}
			}
		}
	}
}
