package alu_test

import (
	"math/big"
	"testing"

	"tandem/alu"
	"tandem/api"
)

// count is how far a shift by b goes in w bits.
func count(b uint64, w uint) uint {
	return uint(b) % w
}

// told is what P5.1's table says, of numbers of w bits, as a whole number that is yet to be brought round.
func told(kind int, a, b uint64, w uint) *big.Int {
	r := new(big.Int)
	x, y, sx, sy := plain(a, w), plain(b, w), signed(a, w), signed(b, w)
	switch kind {
	case api.Add:
		return r.Add(x, y)
	case api.Sub:
		return r.Sub(x, y)
	case api.Mul:
		return r.Mul(x, y)
	case api.Sll:
		return r.Mul(x, two(count(b, w)))
	case api.Srl:
		return r.Quo(x, two(count(b, w)))
	case api.Sra:
		return r.Rsh(sx, count(b, w))
	case api.Slt:
		return bit(sx.Cmp(sy) < 0)
	case api.Sltu:
		return bit(x.Cmp(y) < 0)
	case api.Xor:
		return r.Xor(x, y)
	case api.Or:
		return r.Or(x, y)
	case api.And:
		return r.And(x, y)
	case api.Mulh:
		return r.Rsh(r.Mul(sx, sy), w)
	case api.Mulhu:
		return r.Rsh(r.Mul(x, y), w)
	case api.Mulhsu:
		return r.Rsh(r.Mul(sx, y), w)
	}
	return divided(kind, a, b, w)
}

// divided is what P5.1's table says of quotients and rests.
func divided(kind int, a, b uint64, w uint) *big.Int {
	x, y := plain(a, w), plain(b, w)
	if kind == api.Div || kind == api.Rem {
		x, y = signed(a, w), signed(b, w)
	}
	quotient := kind == api.Div || kind == api.Divu
	if y.Sign() == 0 && quotient {
		return new(big.Int).Sub(two(w), big.NewInt(1))
	}
	if y.Sign() == 0 {
		return x
	}
	q, rest := new(big.Int).QuoRem(x, y, new(big.Int))
	if quotient {
		return q
	}
	return rest
}

func tryDo(t *testing.T, kind int, word bool, a, b uint64) {
	t.Helper()
	w := uint(64)
	if word {
		w = 32
	}
	want := widened(told(kind, a, b, w), w)
	if r, ok := alu.Do(kind, word, a, b); r != want || !ok {
		t.Fatalf("%d, %v, %x, %x: %x, %v, not %x", kind, word, a, b, r, ok, want)
	}
}

// TestWhole holds P5.1 for the table's kinds.
func TestWhole(t *testing.T) {
	for _, kind := range append(inWords(), inWhole()...) {
		pairs(func(a, b uint64) { tryDo(t, kind, false, a, b) })
	}
}

// TestWords holds P5.2 for the kinds that there are for words.
func TestWords(t *testing.T) {
	for _, kind := range inWords() {
		pairs(func(a, b uint64) { tryDo(t, kind, true, a, b) })
	}
}

// TestShifts holds P5.1 and P5.2 for shifts by all counts, with what stands above the count in b, which isn't looked at.
func TestShifts(t *testing.T) {
	for _, kind := range []int{api.Sll, api.Srl, api.Sra} {
		for b := range uint64(256) {
			for _, a := range edges() {
				for _, word := range []bool{false, true} {
					tryDo(t, kind, word, a, b)
					tryDo(t, kind, word, a, b|0xf0f0f0f0f0f0f000)
				}
			}
		}
	}
}

// TestNoOperation holds P5.1 and P5.2 for kinds that are in no table.
func TestNoOperation(t *testing.T) {
	try := func(kind int, word bool) {
		for _, a := range []uint64{0, 7, 1<<64 - 1} {
			if r, ok := alu.Do(kind, word, a, 3); ok || r != 0 {
				t.Errorf("%d, %v, %x: %x, %v", kind, word, a, r, ok)
			}
		}
	}
	others(append(inWords(), inWhole()...), func(kind int) { try(kind, false) })
	others(inWords(), func(kind int) { try(kind, true) })
}

// TestDivided holds P5.6: the quotient times the divisor, and the rest, are a; a rest is less far from 0 than the divisor.
func TestDivided(t *testing.T) {
	pairs(func(a, b uint64) {
		if b == 0 {
			return
		}
		q, _ := alu.Do(api.Div, false, a, b)
		rest, _ := alu.Do(api.Rem, false, a, b)
		if q*b+rest != a || signed(rest, 64).CmpAbs(signed(b, 64)) >= 0 {
			t.Fatalf("%x by %x: %x, %x", a, b, q, rest)
		}
		q, _ = alu.Do(api.Divu, false, a, b)
		rest, _ = alu.Do(api.Remu, false, a, b)
		if q*b+rest != a || rest >= b {
			t.Fatalf("%x by %x: %x, %x without a sign", a, b, q, rest)
		}
	})
}

// TestLowest holds P5.6: for words nothing hangs on the upper halves.
func TestLowest(t *testing.T) {
	d := dice(6)
	for _, kind := range inWords() {
		pairs(func(a, b uint64) {
			r, _ := alu.Do(kind, true, a, b)
			s, _ := alu.Do(kind, true, a^d.next()<<32, b^d.next()<<32)
			if r != s {
				t.Fatalf("%d, %x, %x: %x and %x", kind, a, b, r, s)
			}
		})
	}
}
