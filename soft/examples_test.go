package soft_test

import (
	"math"
	"testing"

	"tandem/soft"
)

// operation is one of the package's six, so that they can be gone through alike.
type operation struct {
	name string
	args int
	do   func(size, rm int, a [3]uint64) (uint64, int)
}

func operations() []operation {
	return []operation{
		{"Add", 2, func(size, rm int, a [3]uint64) (uint64, int) { return soft.Add(size, rm, a[0], a[1]) }},
		{"Sub", 2, func(size, rm int, a [3]uint64) (uint64, int) { return soft.Sub(size, rm, a[0], a[1]) }},
		{"Mul", 2, func(size, rm int, a [3]uint64) (uint64, int) { return soft.Mul(size, rm, a[0], a[1]) }},
		{"Div", 2, func(size, rm int, a [3]uint64) (uint64, int) { return soft.Div(size, rm, a[0], a[1]) }},
		{"Sqrt", 1, func(size, rm int, a [3]uint64) (uint64, int) { return soft.Sqrt(size, rm, a[0]) }},
		{"Fma", 3, func(size, rm int, a [3]uint64) (uint64, int) { return soft.Fma(size, rm, a[0], a[1], a[2]) }},
	}
}

func named(name string) operation {
	for _, o := range operations() {
		if o.name == name {
			return o
		}
	}
	panic(name)
}

type example struct {
	name     string
	size, rm int
	args     [3]uint64
	want     uint64
	flags    int
}

func try(t *testing.T, l []example) {
	t.Helper()
	for _, c := range l {
		if r, f := named(c.name).do(c.size, c.rm, c.args); r != c.want || f != c.flags {
			t.Errorf("%s %d %d %x: %x, %#x; want %x, %#x", c.name, c.size, c.rm, c.args, r, f, c.want, c.flags)
		}
	}
}

// The chapter's own examples, P1.1.
func TestExamples(t *testing.T) {
	try(t, []example{
		{"Add", 4, 0, [3]uint64{0x3f800000, 0x3f800000}, 0x40000000, 0},
		{"Add", 8, 0, [3]uint64{0x3ff0000000000000, 0x3ca0000000000000}, 0x3ff0000000000000, 1},
		{"Add", 8, 3, [3]uint64{0x3ff0000000000000, 0x3ca0000000000000}, 0x3ff0000000000001, 1},
		{"Add", 8, 4, [3]uint64{0x3ff0000000000000, 0x3ca0000000000000}, 0x3ff0000000000001, 1},
		{"Add", 4, 0, [3]uint64{0x7f7fffff, 0x7f7fffff}, 0x7f800000, 5},
		{"Add", 4, 1, [3]uint64{0x7f7fffff, 0x7f7fffff}, 0x7f7fffff, 5},
		{"Sub", 4, 2, [3]uint64{0x3f800000, 0x3f800000}, 0x80000000, 0},
		{"Sub", 4, 0, [3]uint64{0x3f800000, 0x3f800000}, 0, 0},
		{"Mul", 4, 0, [3]uint64{0x00800000, 0x3f000000}, 0x00400000, 0},
		{"Mul", 4, 0, [3]uint64{0x00000001, 0x3f000000}, 0, 3},
		{"Mul", 4, 3, [3]uint64{0x00000001, 0x3f000000}, 1, 3},
		{"Mul", 4, 0, [3]uint64{0x00ffffff, 0x3f000000}, 0x00800000, 3},
		{"Div", 8, 0, [3]uint64{0x3ff0000000000000, 0}, 0x7ff0000000000000, 8},
		{"Div", 4, 0, [3]uint64{0x3f800000, 0x40400000}, 0x3eaaaaab, 1},
		{"Sqrt", 4, 0, [3]uint64{0x40000000}, 0x3fb504f3, 1},
		{"Sqrt", 4, 0, [3]uint64{0xbf800000}, 0x7fc00000, 0x10},
		{"Fma", 4, 0, [3]uint64{0x3f800001, 0x3f800001, 0xbf800002}, 0x28800000, 0},
		{"Fma", 4, 0, [3]uint64{0, 0x7f800000, 0x7fc00000}, 0x7fc00000, 0x10},
		{"Add", 4, 0, [3]uint64{0x7f800001, 0}, 0x7fc00000, 0x10},
		{"Add", 5, 0, [3]uint64{}, 0, 0},
		{"Add", 4, 5, [3]uint64{}, 0, 0},
	})
}

// An overflow in each mode and of each sign, P1.1.
func TestOverflow(t *testing.T) {
	const big, minusBig, end, minusEnd = 0x7f7fffff, 0xff7fffff, 0x7f800000, 0xff800000
	for rm, want := range [][2]uint64{{end, minusEnd}, {big, minusBig}, {big, minusEnd}, {end, minusBig}, {end, minusEnd}} {
		try(t, []example{
			{"Add", 4, rm, [3]uint64{big, big}, want[0], 5},
			{"Add", 4, rm, [3]uint64{minusBig, minusBig}, want[1], 5},
			{"Sub", 4, rm, [3]uint64{big, minusBig}, want[0], 5},
			{"Mul", 4, rm, [3]uint64{minusBig, 0x40000000}, want[1], 5},
			{"Div", 4, rm, [3]uint64{big, 0x00000001}, want[0], 5},
			{"Fma", 4, rm, [3]uint64{big, minusBig, big}, want[1], 5},
		})
	}
	// A little more than the greatest one is an overflow only in the modes that round it up.
	try(t, []example{
		{"Add", 4, 0, [3]uint64{big, 1}, big, 1},
		{"Add", 4, 1, [3]uint64{big, 1}, big, 1},
		{"Add", 4, 2, [3]uint64{big, 1}, big, 1},
		{"Add", 4, 3, [3]uint64{big, 1}, end, 5},
		{"Add", 4, 4, [3]uint64{big, 1}, big, 1},
		{"Add", 4, 2, [3]uint64{minusBig, 0x80000001}, minusEnd, 5},
		{"Add", 4, 3, [3]uint64{minusBig, 0x80000001}, minusBig, 1},
		{"Add", 4, 0, [3]uint64{big, 0x73000000}, end, 5},
		{"Add", 4, 0, [3]uint64{big, 0x72ffffff}, big, 1},
		{"Add", 4, 1, [3]uint64{big, 0x73000000}, big, 1},
		{"Add", 4, 1, [3]uint64{big, 0x73800000}, big, 5},
	})
}

// An underflow in each mode and of each sign, P1.1.
func TestUnderflow(t *testing.T) {
	const minus = 0x80000000
	for rm, want := range [][2]uint64{{0, minus}, {0, minus}, {0, minus | 1}, {1, minus}, {0, minus}} {
		try(t, []example{
			{"Mul", 4, rm, [3]uint64{1, 0x3e800000}, want[0], 3},
			{"Mul", 4, rm, [3]uint64{minus | 1, 0x3e800000}, want[1], 3},
			{"Mul", 4, rm, [3]uint64{1, 1}, want[0], 3},
			{"Mul", 4, rm, [3]uint64{1, minus | 1}, want[1], 3},
			{"Div", 4, rm, [3]uint64{minus | 1, 0x7f7fffff}, want[1], 3},
			{"Fma", 4, rm, [3]uint64{1, 1, 0}, want[0], 3},
			{"Fma", 4, rm, [3]uint64{1, minus | 1, 0}, want[1], 3},
		})
	}
	// Of what rounds to the least normal one only that is no underflow which would with all the bits of a normal one.
	const least = 0x00800000
	try(t, []example{
		{"Div", 4, 0, [3]uint64{0x00ffffff, 0x40000000}, least, 3},
		{"Fma", 4, 0, [3]uint64{0x00ffffff, 0x3f000000, 1}, least, 1},
		{"Fma", 4, 0, [3]uint64{least, 0x3f7fffff, 0}, least, 3},
		{"Fma", 4, 3, [3]uint64{least, 0x3f7fffff, 1}, least + 1, 1},
		{"Fma", 4, 4, [3]uint64{least, 0x3f7fffff, 0}, least, 3},
		{"Fma", 4, 3, [3]uint64{0x3f7fffff, 0x3f7fffff, 0}, 0x3f7fffff, 1},
		{"Mul", 4, 3, [3]uint64{0x3f7fffff, 0x00800001}, 0x00800001, 1},
		{"Mul", 4, 0, [3]uint64{0x3f7fffff, 0x00800001}, 0x00800000, 1},
		{"Mul", 4, 1, [3]uint64{0x3f7fffff, 0x00800001}, 0x00800000, 1},
		{"Mul", 4, 0, [3]uint64{0x3f7ffffe, 0x00800001}, 0x00800000, 1},
		{"Mul", 4, 1, [3]uint64{0x3f7ffffe, 0x00800001}, 0x007fffff, 3},
		{"Mul", 4, 2, [3]uint64{0xbf7ffffe, 0x00800001}, 0x80800000, 1},
		{"Mul", 4, 3, [3]uint64{0xbf7ffffe, 0x00800001}, 0x807fffff, 3},
		{"Mul", 4, 3, [3]uint64{0x3f7ffffe, 0x00800001}, 0x00800000, 1},
	})
}

// Sums that are 0, and the noughts of products, quotients and roots, P1.1's fifth.
func TestNoughts(t *testing.T) {
	const minus = 1 << 63
	const one, two = 0x3ff0000000000000, 0x4000000000000000
	for rm := range 5 {
		sum := uint64(0)
		if rm == 2 {
			sum = minus
		}
		try(t, []example{
			{"Add", 8, rm, [3]uint64{0, 0}, 0, 0},
			{"Add", 8, rm, [3]uint64{minus, minus}, minus, 0},
			{"Add", 8, rm, [3]uint64{0, minus}, sum, 0},
			{"Add", 8, rm, [3]uint64{minus, 0}, sum, 0},
			{"Add", 8, rm, [3]uint64{one, minus | one}, sum, 0},
			{"Add", 8, rm, [3]uint64{minus | 1, 1}, sum, 0},
			{"Sub", 8, rm, [3]uint64{0, 0}, sum, 0},
			{"Sub", 8, rm, [3]uint64{0, minus}, 0, 0},
			{"Sub", 8, rm, [3]uint64{minus, 0}, minus, 0},
			{"Sub", 8, rm, [3]uint64{two, two}, sum, 0},
			{"Mul", 8, rm, [3]uint64{0, one}, 0, 0},
			{"Mul", 8, rm, [3]uint64{0, minus | one}, minus, 0},
			{"Mul", 8, rm, [3]uint64{minus, minus}, 0, 0},
			{"Div", 8, rm, [3]uint64{0, minus | one}, minus, 0},
			{"Div", 8, rm, [3]uint64{minus, minus | 1}, 0, 0},
			{"Sqrt", 8, rm, [3]uint64{0}, 0, 0},
			{"Sqrt", 8, rm, [3]uint64{minus}, minus, 0},
			{"Fma", 8, rm, [3]uint64{0, one, 0}, 0, 0},
			{"Fma", 8, rm, [3]uint64{minus, one, minus}, minus, 0},
			{"Fma", 8, rm, [3]uint64{minus, minus, minus}, sum, 0},
			{"Fma", 8, rm, [3]uint64{one, two, minus | two}, sum, 0},
			{"Fma", 8, rm, [3]uint64{minus, one, 1}, 1, 0},
			// The product is not 0, however little it is, so the sum isn't either.
			{"Fma", 8, rm, [3]uint64{1, 1, minus | one}, minus | one - uint64([]int{0, 1, 0, 1, 0}[rm]), 1},
		})
	}
}

// P1.1: another size, or another mode, is answered by 0 and no flags, whatever the arguments are.
func TestWrongSizesAndModes(t *testing.T) {
	rows := [][3]uint64{
		{}, {0x3f800000, 0x3f800000, 0x3f800000}, {0x3ff0000000000000, 0x3ff0000000000000, 1},
		{0x7f800001, 0x7ff0000000000001, 0}, {math.MaxUint64, math.MaxUint64, math.MaxUint64}, {1, 0, 0x7f800000},
		{0x7f7fffff, 0x7f7fffff, 0x7f7fffff}, {0xbf800000, 0, 0},
	}
	sizes := []int{math.MinInt, -8, -4, -1, 0, 1, 2, 3, 5, 6, 7, 9, 12, 16, 32, 64, 4 + 1<<32, 8 + 1<<32, math.MaxInt}
	wrong := []int{math.MinInt, -5, -1, 5, 6, 7, 8, 256, 1 << 32, math.MaxInt}
	for _, o := range operations() {
		for _, a := range rows {
			for _, size := range sizes {
				for rm := -1; rm <= 5; rm++ {
					wantNothing(t, o, size, rm, a)
				}
			}
			for _, rm := range wrong {
				for _, size := range []int{4, 8, 0, 5} {
					wantNothing(t, o, size, rm, a)
				}
			}
		}
	}
}

func wantNothing(t *testing.T, o operation, size, rm int, a [3]uint64) {
	t.Helper()
	if r, f := o.do(size, rm, a); r != 0 || f != 0 {
		t.Errorf("%s %d %d %x: %x, %#x; want 0, 0", o.name, size, rm, a, r, f)
	}
}

// DOC.md, 'Words': the high half of a float of 4 bytes is not looked at in arguments, and 0 in answers.
func TestHighHalves(t *testing.T) {
	highs := []uint64{1 << 32, 1 << 63, 0xffffffff << 32, 0x7ff8 << 48, 0x3ff00001 << 32}
	for _, o := range operations() {
		for _, a := range rowsOf(4, o.args, shortEdges(4)) {
			for i, high := range highs {
				b := a
				b[i%o.args] |= high
				b[(i+1)%o.args] |= highs[(i+2)%len(highs)]
				for rm := range 5 {
					want, flags := o.do(4, rm, a)
					if want>>32 != 0 {
						t.Fatalf("%s 4 %d %x: %x has a high half", o.name, rm, a, want)
					}
					if r, f := o.do(4, rm, b); r != want || f != flags {
						t.Fatalf("%s 4 %d %x: %x, %#x; want %x, %#x", o.name, rm, b, r, f, want, flags)
					}
				}
			}
		}
	}
}
