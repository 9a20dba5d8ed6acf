package decode

import "tandem/api"

// What a row's instruction has: fields of its bits, and marks that all instructions of the row have.
const (
	partRd = 1 << iota
	partRs1
	partRs2
	partRs3
	partRm
	partCsr
	partImmI
	partImmS
	partImmB
	partImmU
	partImmJ
	partShift  // bits 20 to 25, without a sign
	partImmRs1 // the number rs1 is
	partWide   // the size, by f3
	partFmt    // the size, by fmt
	partWord   // whether it is of words, by op
	partWhole  // which whole number, by rs2
	markUseImm
	markUnsigned
)

// fieldImms are the parts that fill the immediate.
const fieldImms = partImmI | partImmS | partImmB | partImmU | partImmJ | partShift | partImmRs1

// field tells the number that stands in some of the bits, from one on.
func field(bits uint32, from, count int) uint32 {
	return bits >> from & (1<<count - 1)
}

// place puts the lowest bits of a number into some of the bits, from one on.
func place(number, from, count int) uint32 {
	return uint32(number) & (1<<count - 1) << from
}

// read tells the instruction of bits that a row holds.
func read(r row, bits uint32) api.Inst {
	x := api.Inst{Kind: int(r.kind), Imm: immediate(r.parts, bits)}
	x.UseImm = r.parts&markUseImm != 0
	x.Unsigned = r.parts&markUnsigned != 0
	readRegisters(&x, r.parts, bits)
	readSizes(&x, r.parts, bits)
	return x
}

func readRegisters(x *api.Inst, parts, bits uint32) {
	if parts&partRd != 0 {
		x.Rd = int(field(bits, 7, 5))
	}
	if parts&partRs1 != 0 {
		x.Rs1 = int(field(bits, 15, 5))
	}
	if parts&partRs2 != 0 {
		x.Rs2 = int(field(bits, 20, 5))
	}
	if parts&partRs3 != 0 {
		x.Rs3 = int(field(bits, 27, 5))
	}
	if parts&partRm != 0 {
		x.Rm = int(field(bits, 12, 3))
	}
	if parts&partCsr != 0 {
		x.Csr = int(field(bits, 20, 12))
	}
}

func readSizes(x *api.Inst, parts, bits uint32) {
	if parts&partWide != 0 {
		x.Size = 1 << field(bits, 12, 2)
	}
	if parts&partFmt != 0 {
		x.Size = 4 << field(bits, 25, 1)
	}
	if parts&partWord != 0 {
		x.Word = field(bits, 3, 1) == 1
	}
	if parts&partWhole != 0 {
		x.Word = field(bits, 21, 1) == 0
		x.Unsigned = field(bits, 20, 1) == 1
	}
}

// write tells a row's bits with the instruction's fields in them, each cut to its place.
func write(r row, x api.Inst) uint32 {
	return r.match | writeRegisters(x) | writeSizes(r.parts, x) | placeImmediate(r.parts, int(x.Imm))
}

// writeRegisters doesn't ask which of the fields the row has: what has bits by it has 0 in all others.
func writeRegisters(x api.Inst) uint32 {
	sources := place(x.Rs1, 15, 5) | place(x.Rs2, 20, 5) | place(x.Rs3, 27, 5)
	return place(x.Rd, 7, 5) | sources | place(x.Rm, 12, 3) | place(x.Csr, 20, 12)
}

func writeSizes(parts uint32, x api.Inst) uint32 {
	var bits uint32
	if parts&partWide != 0 {
		bits |= place(power(x.Size), 12, 2)
	}
	if parts&partFmt != 0 && x.Size == 8 {
		bits |= place(1, 25, 1)
	}
	if parts&partWord != 0 && x.Word {
		bits |= place(1, 3, 1)
	}
	if parts&partWhole != 0 && !x.Word {
		bits |= place(1, 21, 1)
	}
	if parts&partWhole != 0 && x.Unsigned {
		bits |= place(1, 20, 1)
	}
	return bits
}

// power tells which power of 2 a size is; 0, if it is none of the sizes.
func power(size int) int {
	switch size {
	case 2:
		return 1
	case 4:
		return 2
	case 8:
		return 3
	}
	return 0
}
