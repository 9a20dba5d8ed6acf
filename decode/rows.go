package decode

import "tandem/api"

// A row is a kind's bits: those of mask must be those of match, and parts tells what the others are.
type row struct {
	mask, match uint32
	kind        uint8
	parts       uint32
}

// The bits that rows look at.
const (
	atOp     = 0x0000007f
	atF3     = atOp | 0x00007000
	atF6     = atF3 | 0xfc000000
	atF7     = atF3 | 0xfe000000
	atAmo    = 0xf800607f // f5, and of f3 all but its lowest bit: the size
	atLr     = atAmo | 0x01f00000
	atBoth   = atF7 &^ 0x00000008 // the bit of op that tells words from doubles is left out
	atSfence = atF7 | 0x00000f80
	atAll    = 0xffffffff

	atWide  = 0x0000607f // f3 but for its lowest bit
	atFused = 0x0400007f // of fmt the higher bit, which is always 0
	atRound = atFused | 0xf8000000
	atRoot  = atRound | 0x01f00000
	atWhole = atRound | 0x01c00000 // of rs2 all but the two bits that tell the whole number's kind
	atFloat = atRound | 0x00007000
	atMove  = atFloat | 0x01f00000
	atOther = atRoot | 0x02000000
)

// What several rows have.
const (
	threeRegs = partRd | partRs1 | partRs2
	withImm   = partRd | partRs1 | partImmI | markUseImm
	branches  = partRs1 | partRs2 | partImmB
	floats2   = partRd | partRs1 | partFmt
	floats3   = floats2 | partRs2
	csrReg    = partRd | partRs1 | partCsr
	csrImm    = partRd | partCsr | partImmRs1 | markUseImm
)

// wholes tells the rows for whole numbers: constants, jumps, branches, loads, stores, sums and products.
func wholes() [44]row {
	return [...]row{
		{atOp, 0x37, api.Lui, partRd | partImmU},
		{atOp, 0x17, api.Auipc, partRd | partImmU},
		{atOp, 0x6f, api.Jal, partRd | partImmJ},
		{atF3, 0x0067, api.Jalr, partRd | partRs1 | partImmI},
		{atF3, 0x0063, api.Beq, branches},
		{atF3, 0x1063, api.Bne, branches},
		{atF3, 0x4063, api.Blt, branches},
		{atF3, 0x5063, api.Bge, branches},
		{atF3, 0x6063, api.Bltu, branches},
		{atF3, 0x7063, api.Bgeu, branches},
		{atOp | 0x4000, 0x0003, api.Load, partRd | partRs1 | partImmI | partWide},
		{atWide, 0x4003, api.Load, partRd | partRs1 | partImmI | partWide | markUnsigned},
		{atF3, 0x6003, api.Load, partRd | partRs1 | partImmI | partWide | markUnsigned},
		{atOp | 0x4000, 0x0023, api.Store, partRs1 | partRs2 | partImmS | partWide},
		{atF3 &^ 0x8, 0x0013, api.Add, withImm | partWord},
		{atF3, 0x2013, api.Slt, withImm},
		{atF3, 0x3013, api.Sltu, withImm},
		{atF3, 0x4013, api.Xor, withImm},
		{atF3, 0x6013, api.Or, withImm},
		{atF3, 0x7013, api.And, withImm},
		{atF6, 0x00001013, api.Sll, partRd | partRs1 | partShift | markUseImm},
		{atF6, 0x00005013, api.Srl, partRd | partRs1 | partShift | markUseImm},
		{atF6, 0x40005013, api.Sra, partRd | partRs1 | partShift | markUseImm},
		{atF7, 0x0000101b, api.Sll, partRd | partRs1 | partShift | partWord | markUseImm},
		{atF7, 0x0000501b, api.Srl, partRd | partRs1 | partShift | partWord | markUseImm},
		{atF7, 0x4000501b, api.Sra, partRd | partRs1 | partShift | partWord | markUseImm},
		{atBoth, 0x00000033, api.Add, threeRegs | partWord},
		{atBoth, 0x40000033, api.Sub, threeRegs | partWord},
		{atBoth, 0x00001033, api.Sll, threeRegs | partWord},
		{atF7, 0x00002033, api.Slt, threeRegs},
		{atF7, 0x00003033, api.Sltu, threeRegs},
		{atF7, 0x00004033, api.Xor, threeRegs},
		{atBoth, 0x00005033, api.Srl, threeRegs | partWord},
		{atBoth, 0x40005033, api.Sra, threeRegs | partWord},
		{atF7, 0x00006033, api.Or, threeRegs},
		{atF7, 0x00007033, api.And, threeRegs},
		{atBoth, 0x02000033, api.Mul, threeRegs | partWord},
		{atF7, 0x02001033, api.Mulh, threeRegs},
		{atF7, 0x02002033, api.Mulhsu, threeRegs},
		{atF7, 0x02003033, api.Mulhu, threeRegs},
		{atBoth, 0x02004033, api.Div, threeRegs | partWord},
		{atBoth, 0x02005033, api.Divu, threeRegs | partWord},
		{atBoth, 0x02006033, api.Rem, threeRegs | partWord},
		{atBoth, 0x02007033, api.Remu, threeRegs | partWord},
	}
}

// systems tells the rows for what orders, calls, tells registers of the system, and does both a load and a store.
func systems() [25]row {
	return [...]row{
		{atF3, 0x000f, api.Fence, 0},
		{atF3, 0x100f, api.FenceI, 0},
		{atAll, 0x00000073, api.Ecall, 0},
		{atAll, 0x00100073, api.Ebreak, 0},
		{atAll, 0x10200073, api.Sret, 0},
		{atAll, 0x30200073, api.Mret, 0},
		{atAll, 0x10500073, api.Wfi, 0},
		{atSfence, 0x12000073, api.SfenceVma, partRs1 | partRs2},
		{atF3, 0x1073, api.Csrrw, csrReg},
		{atF3, 0x2073, api.Csrrs, csrReg},
		{atF3, 0x3073, api.Csrrc, csrReg},
		{atF3, 0x5073, api.Csrrw, csrImm},
		{atF3, 0x6073, api.Csrrs, csrImm},
		{atF3, 0x7073, api.Csrrc, csrImm},
		{atLr, 0x1000202f, api.Lr, partRd | partRs1 | partWide},
		{atAmo, 0x1800202f, api.Sc, threeRegs | partWide},
		{atAmo, 0x0800202f, api.AmoSwap, threeRegs | partWide},
		{atAmo, 0x0000202f, api.AmoAdd, threeRegs | partWide},
		{atAmo, 0x2000202f, api.AmoXor, threeRegs | partWide},
		{atAmo, 0x6000202f, api.AmoAnd, threeRegs | partWide},
		{atAmo, 0x4000202f, api.AmoOr, threeRegs | partWide},
		{atAmo, 0x8000202f, api.AmoMin, threeRegs | partWide},
		{atAmo, 0xa000202f, api.AmoMax, threeRegs | partWide},
		{atAmo, 0xc000202f, api.AmoMinu, threeRegs | partWide},
		{atAmo, 0xe000202f, api.AmoMaxu, threeRegs | partWide},
	}
}

// floats tells the rows for floats.
func floats() [26]row {
	return [...]row{
		{atWide, 0x2007, api.FLoad, partRd | partRs1 | partImmI | partWide},
		{atWide, 0x2027, api.FStore, partRs1 | partRs2 | partImmS | partWide},
		{atFused, 0x43, api.FMadd, floats3 | partRs3 | partRm},
		{atFused, 0x47, api.FMsub, floats3 | partRs3 | partRm},
		{atFused, 0x4b, api.FNmsub, floats3 | partRs3 | partRm},
		{atFused, 0x4f, api.FNmadd, floats3 | partRs3 | partRm},
		{atRound, 0x00000053, api.FAdd, floats3 | partRm},
		{atRound, 0x08000053, api.FSub, floats3 | partRm},
		{atRound, 0x10000053, api.FMul, floats3 | partRm},
		{atRound, 0x18000053, api.FDiv, floats3 | partRm},
		{atRoot, 0x58000053, api.FSqrt, floats2 | partRm},
		{atFloat, 0x20000053, api.FSgnj, floats3},
		{atFloat, 0x20001053, api.FSgnjn, floats3},
		{atFloat, 0x20002053, api.FSgnjx, floats3},
		{atFloat, 0x28000053, api.FMin, floats3},
		{atFloat, 0x28001053, api.FMax, floats3},
		{atFloat, 0xa0002053, api.FEq, floats3},
		{atFloat, 0xa0001053, api.FLt, floats3},
		{atFloat, 0xa0000053, api.FLe, floats3},
		{atOther, 0x40100053, api.FConvert, floats2 | partRm},
		{atOther, 0x42000053, api.FConvert, floats2 | partRm},
		{atWhole, 0xc0000053, api.FToInt, floats2 | partRm | partWhole},
		{atWhole, 0xd0000053, api.FFromInt, floats2 | partRm | partWhole},
		{atMove, 0xe0000053, api.FMoveX, floats2},
		{atMove, 0xe0001053, api.FClass, floats2},
		{atMove, 0xf0000053, api.FMoveF, floats2},
	}
}

// among tells the first row of a table that holds the bits.
func among(table []row, bits uint32) (row, bool) {
	for _, r := range table {
		if bits&r.mask == r.match && r.rounds(bits) {
			return r, true
		}
	}
	return row{}, false
}

// rounds tells whether the bits name a rounding mode there is, or need none.
func (r row) rounds(bits uint32) bool {
	rm := field(bits, 12, 3)
	return r.parts&partRm == 0 || rm <= 4 || rm == 7
}
