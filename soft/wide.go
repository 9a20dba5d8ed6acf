package soft

import "math/bits"

// wide is a whole number of 128 bits without a sign: two words, the high one first.
type wide struct {
	high, low uint64
}

// wideBits is how many bits a wide number has.
const wideBits = 128

func (w wide) below(v wide) bool {
	return w.high < v.high || w.high == v.high && w.low < v.low
}

func (w wide) plus(v wide) wide {
	low, carry := bits.Add64(w.low, v.low, 0)
	high, _ := bits.Add64(w.high, v.high, carry)
	return wide{high, low}
}

func (w wide) minus(v wide) wide {
	low, borrow := bits.Sub64(w.low, v.low, 0)
	high, _ := bits.Sub64(w.high, v.high, borrow)
	return wide{high, low}
}

func (w wide) left(n int) wide {
	if n >= 64 {
		return wide{w.low << (n - 64), 0}
	}
	return wide{w.high<<n | w.low>>(64-n), w.low << n}
}

func (w wide) right(n int) wide {
	if n >= 64 {
		return wide{0, w.high >> (n - 64)}
	}
	return wide{w.high >> n, w.low>>n | w.high<<(64-n)}
}

// sticky has its last bit 1, if something is left below it.
func (w wide) sticky(some bool) wide {
	if some {
		w.low |= 1
	}
	return w
}

// rightSticky keeps in the last bit whether a bit fell out, so that the number is still rounded as if it were whole.
func (w wide) rightSticky(n int) wide {
	r := w.right(n)
	return r.sticky(r.left(n) != w)
}

// leadingNoughts tells how many noughts stand ahead of the highest bit that is 1.
func (w wide) leadingNoughts() int {
	if w.high != 0 {
		return bits.LeadingZeros64(w.high)
	}
	return 64 + bits.LeadingZeros64(w.low)
}

func multiply(a, b uint64) wide {
	high, low := bits.Mul64(a, b)
	return wide{high, low}
}
