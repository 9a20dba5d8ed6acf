package squeeze

// Where instructions have their immediates; of formR they have none.
const (
	formR = iota
	formI
	formS
	formB
	formU
	formJ
)

// place puts an immediate to where instructions of a form have it. That of formU is told in units of 4096, as halves have it.
func place(form uint8, imm uint32) uint32 {
	switch form {
	case formI:
		return imm << 20
	case formS:
		return imm>>5<<25 | field(imm, 0, 5)<<7
	case formB:
		return field(imm, 12, 1)<<31 | field(imm, 5, 6)<<25 | field(imm, 1, 4)<<8 | field(imm, 11, 1)<<7
	case formU:
		return imm << 12
	case formJ:
		return field(imm, 20, 1)<<31 | field(imm, 1, 10)<<21 | field(imm, 11, 1)<<20 | field(imm, 12, 8)<<12
	}
	return 0
}

// take tells the lower bits of the immediate that an instruction of a form has, at least as many as halves have places for.
func take(form uint8, x uint32) uint32 {
	switch form {
	case formI:
		return x >> 20
	case formS:
		return x>>25<<5 | field(x, 7, 5)
	case formB:
		return field(x, 25, 6)<<5 | field(x, 8, 4)<<1
	case formU:
		return x >> 12
	case formJ:
		return field(x, 20, 1)<<11 | field(x, 21, 10)<<1
	}
	return 0
}

// field tells the number that stands in some of the bits, from one on.
func field(x uint32, from, count uint8) uint32 {
	return x >> from & (1<<count - 1)
}
