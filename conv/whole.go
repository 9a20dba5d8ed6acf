package conv

import "math/bits"

// span is a range of whole numbers: of 32 bits or of 64, from 0 on or with a sign.
type span struct {
	word, unsigned bool
}

// farthest is the distance from 0 of an end of the range.
func (s span) farthest(minus bool) uint64 {
	all := uint64(1<<64 - 1)
	if s.word {
		all = 1<<32 - 1
	}
	switch {
	case s.unsigned && minus:
		return 0
	case s.unsigned:
		return all
	case minus:
		return all/2 + 1
	}
	return all / 2
}

// number is the one of a distance from 0 that lies within the range, as a register holds it.
func (s span) number(minus bool, far uint64) uint64 {
	if minus {
		far = -far
	}
	if s.word {
		return uint64(int64(int32(far)))
	}
	return far
}

// end is the end of the range on one side of 0.
func (s span) end(minus bool) uint64 { return s.number(minus, s.farthest(minus)) }

// read takes apart the number of the range that a register holds.
func (s span) read(x uint64) number {
	switch {
	case s.word && s.unsigned:
		x = uint64(uint32(x))
	case s.word:
		x = uint64(int64(int32(x)))
	}
	if !s.unsigned && int64(x) < 0 {
		return number{true, 0, -x}
	}
	return number{false, 0, x}
}

// whole rounds a number to a whole one's distance from 0; the first truth: it is not what it was; the second: it has no more than 64 bits.
func whole(rm int, n number) (uint64, bool, bool) {
	switch {
	case n.mag == 0:
		return 0, false, true
	case bits.Len64(n.mag)+n.exp > 64:
		return 0, false, false
	case n.exp >= 0:
		return n.mag << n.exp, false, true
	}
	far, differs := cut(rm, n, -n.exp)
	return far, differs, true
}
