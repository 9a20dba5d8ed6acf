package decode

// immediate tells the immediate that the parts have in the bits; 0, if they have none.
func immediate(parts, bits uint32) int64 {
	// Bit 31 is the sign of each immediate that has one: what is shifted down from it brings it along.
	signed := int32(bits)
	switch parts & fieldImms {
	case partImmI:
		return int64(signed >> 20)
	case partImmS:
		return int64(signed>>25<<5 | int32(field(bits, 7, 5)))
	case partImmB:
		return int64(signed>>31<<12 | int32(field(bits, 7, 1)<<11|field(bits, 25, 6)<<5|field(bits, 8, 4)<<1))
	case partImmU:
		return int64(signed >> 12 << 12)
	case partImmJ:
		return int64(signed>>31<<20 | int32(field(bits, 12, 8)<<12|field(bits, 20, 1)<<11|field(bits, 21, 10)<<1))
	case partShift:
		return int64(field(bits, 20, 6))
	case partImmRs1:
		return int64(field(bits, 15, 5))
	}
	return 0
}

// placeImmediate puts an immediate to where the parts have it.
func placeImmediate(parts uint32, imm int) uint32 {
	switch parts & fieldImms {
	case partImmI:
		return place(imm, 20, 12)
	case partImmS:
		return place(imm>>5, 25, 7) | place(imm, 7, 5)
	case partImmB:
		return place(imm>>12, 31, 1) | place(imm>>11, 7, 1) | place(imm>>5, 25, 6) | place(imm>>1, 8, 4)
	case partImmU:
		return place(imm>>12, 12, 20)
	case partImmJ:
		return place(imm>>20, 31, 1) | place(imm>>12, 12, 8) | place(imm>>11, 20, 1) | place(imm>>1, 21, 10)
	case partShift:
		return place(imm, 20, 6)
	case partImmRs1:
		return place(imm, 15, 5)
	}
	return 0
}
