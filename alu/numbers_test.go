package alu_test

import (
	"math"
	"math/big"
	"testing"

	"tandem/api"
)

// dice tells numbers, always the same ones.
type dice uint64

func (d *dice) next() uint64 {
	*d += 0x9e3779b97f4a7c15
	z := uint64(*d)
	z = (z ^ z>>30) * 0xbf58476d1ce4e5b9
	z = (z ^ z>>27) * 0x94d049bb133111eb
	return z ^ z>>31
}

// any is a number of any length, with or without ones ahead of it.
func (d *dice) any() uint64 {
	v := d.next() >> (d.next() % 64)
	if d.next()%2 == 0 {
		return ^v
	}
	return v
}

// edges are the numbers beside which operations change: the ends of all widths, powers of two and what lies beside them, and some whose halves differ.
func edges() []uint64 {
	l := []uint64{3, 5, 7, 10, 0x0123456789abcdef, 0xfedcba9876543210, 0xaaaaaaaa55555555, 0x80000000ffffffff, 0x7fffffff80000000, 0xffffffff00000001}
	for _, n := range []int{0, 1, 2, 7, 8, 15, 16, 17, 30, 31, 32, 33, 47, 61, 62, 63} {
		p := uint64(1) << n
		l = append(l, p-1, p, p+1, -p, -p-1)
	}
	return append(l, 1<<64-2)
}

// pairs goes through each two of the edges, and many others.
func pairs(do func(a, b uint64)) {
	l := edges()
	for _, a := range l {
		for _, b := range l {
			do(a, b)
		}
	}
	d := dice(5)
	for range 10000 {
		do(d.any(), d.any())
	}
}

// two is two to the n.
func two(n uint) *big.Int {
	return new(big.Int).Lsh(big.NewInt(1), n)
}

// low is v's lowest w bits, as a number without a sign.
func low(v *big.Int, w uint) *big.Int {
	return new(big.Int).Mod(v, two(w))
}

// plain is a's lowest w bits, taken without a sign.
func plain(a uint64, w uint) *big.Int {
	return low(new(big.Int).SetUint64(a), w)
}

// signed is a's lowest w bits, taken with a sign.
func signed(a uint64, w uint) *big.Int {
	v := plain(a, w)
	if v.Cmp(two(w-1)) >= 0 {
		v.Sub(v, two(w))
	}
	return v
}

// widened is v's lowest w bits, widened to 64.
func widened(v *big.Int, w uint) uint64 {
	n := low(v, w).Uint64()
	if w < 64 && n>>(w-1) == 1 {
		n |= ^uint64(0) << w
	}
	return n
}

// bit is 1, if it is so.
func bit(is bool) *big.Int {
	if is {
		return big.NewInt(1)
	}
	return new(big.Int)
}

// inWords are the kinds that there are for words too.
func inWords() []int {
	return []int{api.Add, api.Sub, api.Mul, api.Sll, api.Srl, api.Sra, api.Div, api.Divu, api.Rem, api.Remu}
}

// inWhole are the kinds that there are for the whole alone.
func inWhole() []int {
	return []int{api.Slt, api.Sltu, api.Xor, api.Or, api.And, api.Mulh, api.Mulhu, api.Mulhsu}
}

// branches are the kinds of branches.
func branches() []int {
	return []int{api.Beq, api.Bne, api.Blt, api.Bge, api.Bltu, api.Bgeu}
}

// atomics are the kinds of atomic operations.
func atomics() []int {
	return []int{api.AmoSwap, api.AmoAdd, api.AmoXor, api.AmoAnd, api.AmoOr, api.AmoMin, api.AmoMax, api.AmoMinu, api.AmoMaxu}
}

// others goes through the kinds that aren't among those, and through numbers that are no kinds.
func others(of []int, do func(kind int)) {
	is := map[int]bool{}
	for _, k := range of {
		is[k] = true
	}
	for k := -api.Kinds; k < 3*api.Kinds; k++ {
		if !is[k] {
			do(k)
		}
	}
	for _, k := range of {
		do(k + 1<<8)
		do(k + 1<<16)
		do(k + 1<<32)
		do(k - 1<<32)
		do(k ^ math.MinInt)
		do(^k)
		do(-k)
	}
	do(math.MaxInt)
	do(math.MinInt)
}

// TestNumbers holds these readings of numbers against some written out by hand.
func TestNumbers(t *testing.T) {
	if v := signed(1<<63, 64); v.String() != "-9223372036854775808" {
		t.Error(v)
	}
	if v := signed(0x1ffffffff, 32); v.Int64() != -1 {
		t.Error(v)
	}
	if v := plain(0x1ffffffff, 32); v.Int64() != 0xffffffff {
		t.Error(v)
	}
	if v := widened(big.NewInt(-1), 32); v != 1<<64-1 {
		t.Errorf("%x", v)
	}
	if v := widened(big.NewInt(0x17fffffff), 32); v != 0x7fffffff {
		t.Errorf("%x", v)
	}
}
