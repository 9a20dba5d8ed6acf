package alu_test

import (
	"math"
	"math/big"
	"testing"

	"tandem/alu"
	"tandem/api"
)

// taken is what P5.3 says.
func taken(kind int, a, b uint64) bool {
	with := signed(a, 64).Cmp(signed(b, 64))
	without := plain(a, 64).Cmp(plain(b, 64))
	return map[int]bool{
		api.Beq: with == 0, api.Bne: with != 0, api.Blt: with < 0, api.Bge: with >= 0, api.Bltu: without < 0, api.Bgeu: without >= 0,
	}[kind]
}

// TestBranch holds P5.3 for the kinds of branches, with numbers that are one and the same too.
func TestBranch(t *testing.T) {
	try := func(kind int, a, b uint64) {
		if is, ok := alu.Branch(kind, a, b); is != taken(kind, a, b) || !ok {
			t.Fatalf("%d, %x, %x: %v, %v", kind, a, b, is, ok)
		}
	}
	for _, kind := range branches() {
		for _, a := range edges() {
			try(kind, a, a)
			try(kind, a, a^1)
			try(kind, a, a^1<<32)
			try(kind, a, a^1<<63)
		}
	}
	d := dice(7)
	for range 20000 {
		for _, kind := range branches() {
			try(kind, d.any(), d.any())
		}
	}
}

// TestNoBranch holds P5.3 for what is no branch.
func TestNoBranch(t *testing.T) {
	others(branches(), func(kind int) {
		for _, a := range []uint64{0, 1, 2} {
			if is, ok := alu.Branch(kind, a, 1); is || ok {
				t.Errorf("%d, %x: %v, %v", kind, a, is, ok)
			}
		}
	})
}

// written is what P5.4 says, of numbers of w bits.
func written(kind int, old, v uint64, w uint) uint64 {
	r := new(big.Int)
	x, y := plain(old, w), plain(v, w)
	with, without := signed(old, w).Cmp(signed(v, w)), x.Cmp(y)
	first := false
	switch kind {
	case api.AmoAdd:
		return low(r.Add(x, y), w).Uint64()
	case api.AmoXor:
		return r.Xor(x, y).Uint64()
	case api.AmoAnd:
		return r.And(x, y).Uint64()
	case api.AmoOr:
		return r.Or(x, y).Uint64()
	case api.AmoMin:
		first = with < 0
	case api.AmoMax:
		first = with > 0
	case api.AmoMinu:
		first = without < 0
	case api.AmoMaxu:
		first = without > 0
	}
	if first {
		return x.Uint64()
	}
	return y.Uint64()
}

// TestAtomic holds P5.4 for its kinds and sizes, whatever stands above the lowest bytes.
func TestAtomic(t *testing.T) {
	for _, kind := range atomics() {
		for _, size := range []int{4, 8} {
			pairs(func(a, b uint64) {
				want := written(kind, a, b, uint(8*size))
				if r, ok := alu.Atomic(kind, size, a, b); r != want || !ok {
					t.Fatalf("%d, %d, %x, %x: %x, %v, not %x", kind, size, a, b, r, ok, want)
				}
			})
		}
	}
}

// wrong goes through the sizes up to some end, below 0 too, that are none of those, and others whose lowest bits are one's.
func wrong(of []int, do func(size int)) {
	is := map[int]bool{}
	for _, s := range of {
		is[s] = true
		do(-s)
		do(s + 1<<8)
		do(s + 1<<32)
		do(s ^ math.MinInt)
	}
	for s := -70; s < 300; s++ {
		if !is[s] {
			do(s)
		}
	}
	do(math.MaxInt)
	do(math.MinInt)
}

// TestNoAtomic holds P5.4 for wrong kinds and sizes.
func TestNoAtomic(t *testing.T) {
	try := func(kind, size int) {
		if r, ok := alu.Atomic(kind, size, 6, 3); ok || r != 0 {
			t.Errorf("%d, %d: %x, %v", kind, size, r, ok)
		}
	}
	others(atomics(), func(kind int) {
		try(kind, 4)
		try(kind, 8)
		try(kind, 2)
	})
	for _, kind := range atomics() {
		wrong([]int{4, 8}, func(size int) { try(kind, size) })
	}
}

// TestExtend holds P5.5 for its sizes.
func TestExtend(t *testing.T) {
	try := func(v uint64, size int) {
		w := uint(8 * size)
		if r, ok := alu.Extend(v, size, false); r != widened(plain(v, w), w) || !ok {
			t.Fatalf("%x, %d: %x, %v", v, size, r, ok)
		}
		if r, ok := alu.Extend(v, size, true); r != plain(v, w).Uint64() || !ok {
			t.Fatalf("%x, %d: %x, %v without a sign", v, size, r, ok)
		}
	}
	d := dice(8)
	for _, size := range []int{1, 2, 4, 8} {
		for _, v := range edges() {
			try(v, size)
		}
		for range 20000 {
			try(d.any(), size)
		}
	}
}

// TestNoExtend holds P5.5 for wrong sizes.
func TestNoExtend(t *testing.T) {
	wrong([]int{1, 2, 4, 8}, func(size int) {
		for _, unsigned := range []bool{false, true} {
			if r, ok := alu.Extend(5, size, unsigned); ok || r != 0 {
				t.Errorf("%d, %v: %x, %v", size, unsigned, r, ok)
			}
		}
	})
}
