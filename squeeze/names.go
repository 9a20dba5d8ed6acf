package squeeze

import "math/bits"

// Which register that a half names stands where in the instruction: a bit each, counted as the rows of registers are.
const (
	rdD = 1 << iota
	rdX
	rdY
	rs1D
	rs1X
	rs2T
	rs2Y
)

// What several rows have.
const (
	sameD = rdD | rs1D
	sameX = rdX | rs1X
	sums  = sameX | rs2Y
	loads = rdY | rs1X
	saves = rs1X | rs2Y
)

// A register is named by some bits of the half, and has 5 bits in the instruction.
type register struct {
	from, count, to uint8
}

var registers = [...]register{{7, 5, 7}, {7, 3, 7}, {2, 3, 7}, {7, 5, 15}, {7, 3, 15}, {2, 5, 20}, {2, 3, 20}}

// writeNames tells an instruction's bits that name the registers which a half does.
func writeNames(names uint8, h uint16) uint32 {
	var x uint32
	for left := names; left != 0; left &= left - 1 {
		r := registers[bits.TrailingZeros8(left)]
		number := field(uint32(h), r.from, r.count)
		if r.count == 3 { // short names are those of the registers from 8 on
			number += 8
		}
		x |= number << r.to
	}
	return x
}

// readNames tells a half's bits that name the registers which an instruction does, each cut to its place.
func readNames(names uint8, x uint32) uint16 {
	var h uint16
	for left := names; left != 0; left &= left - 1 {
		r := registers[bits.TrailingZeros8(left)]
		h |= uint16(field(x, r.to, r.count)) << r.from
	}
	return h
}
