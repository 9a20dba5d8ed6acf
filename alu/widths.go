package alu

import (
	"math/bits"

	"tandem/api"
)

// plain is a number of a width without a sign.
type plain interface {
	uint32 | uint64
}

// signed is one of the same width, taken with a sign.
type signed interface {
	int32 | int64
}

// both does what there is for numbers of 32 bits and of 64.
func both[S signed, U plain](kind int, a, b U) (U, bool) {
	switch kind {
	case api.Sub:
		b = -b
		fallthrough
	case api.Add:
		return a + b, true
	case api.Mul:
		return a * b, true
	case api.Sll:
		return a << places(b), true
	case api.Srl:
		return a >> places(b), true
	case api.Sra:
		return U(S(a) >> places(b)), true
	case api.Div:
		return U(quotient(S(a), S(b))), true
	case api.Divu:
		return quotient(a, b), true
	case api.Rem:
		return a - b*U(quotient(S(a), S(b))), true
	case api.Remu:
		return a - b*quotient(a, b), true
	}
	return 0, false
}

// places tells how far a shift by b goes: never by the whole width or more.
func places[U plain](b U) U {
	width := bits.Len64(uint64(^U(0)))
	return b & U(width-1)
}

// quotient is what the language's own is, which is brought round too for the least number by -1, but for b 0, where that one panics.
func quotient[T signed | plain](a, b T) T {
	if b == 0 {
		return ^T(0)
	}
	return a / b
}

// swapped does the atomic operations, of numbers of 32 bits and of 64.
func swapped[S signed, U plain](kind int, old, v U) (U, bool) {
	switch kind {
	case api.AmoSwap:
		return v, true
	case api.AmoAdd:
		return old + v, true
	case api.AmoXor:
		return old ^ v, true
	case api.AmoAnd:
		return old & v, true
	case api.AmoOr:
		return old | v, true
	case api.AmoMin:
		return U(min(S(old), S(v))), true
	case api.AmoMax:
		return U(max(S(old), S(v))), true
	case api.AmoMinu:
		return min(old, v), true
	case api.AmoMaxu:
		return max(old, v), true
	}
	return 0, false
}
