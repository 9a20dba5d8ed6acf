package squeeze

// A row is how halves of one shape stand for instructions: the bits of mask must be those of match, and of those of some, if there are any, one must be 1.
type row struct {
	mask, match, some uint16
	base              uint32 // what all the row's instructions have
	names             uint8  // what registers they have from the half
	imm               uint8  // how the half holds the immediate
	form              uint8  // where the instruction has it
}

// The bits of a half that rows look at.
const (
	atKind  = 0xe003
	bitsD   = 0x0f80
	bitsT   = 0x007c
	bitsImm = 0x107c // the immediate's, where it leaves room for a whole register's name

	atBit12 = atKind | 0x1000
	atNoT   = atBit12 | bitsT
	atD     = atKind | bitsD
	atShift = atKind | 0x0c00
	atPair  = atShift | 0x1060
	atAll   = 0xffff
)

// The bits of an instruction that tell its kind before all others.
const atOp = 0x7f

// rows tells the table of what stands for what.
func rows() [36]row {
	return [...]row{
		{atKind, 0x0000, 0x1fe0, 0x00010013, rdY, immFrame, formI},
		{atKind, 0x2000, 0, 0x00003007, loads, immDouble, formI},
		{atKind, 0x4000, 0, 0x00002003, loads, immWord, formI},
		{atKind, 0x6000, 0, 0x00003003, loads, immDouble, formI},
		{atKind, 0xa000, 0, 0x00003027, saves, immDouble, formS},
		{atKind, 0xc000, 0, 0x00002023, saves, immWord, formS},
		{atKind, 0xe000, 0, 0x00003023, saves, immDouble, formS},

		{atKind, 0x0001, 0, 0x00000013, sameD, immSigned, formI},
		{atKind, 0x2001, bitsD, 0x0000001b, sameD, immSigned, formI},
		{atKind, 0x4001, 0, 0x00000013, rdD, immSigned, formI},
		{atD, 0x6101, bitsImm, 0x00010113, 0, immStack, formI},
		// What has register 2 and an immediate is held by the row above already.
		{atKind, 0x6001, bitsImm, 0x00000037, rdD, immSigned, formU},
		{atShift, 0x8001, 0, 0x00005013, sameX, immShift, formI},
		{atShift, 0x8401, 0, 0x40005013, sameX, immShift, formI},
		{atShift, 0x8801, 0, 0x00007013, sameX, immSigned, formI},
		{atPair, 0x8c01, 0, 0x40000033, sums, immNone, formR},
		{atPair, 0x8c21, 0, 0x00004033, sums, immNone, formR},
		{atPair, 0x8c41, 0, 0x00006033, sums, immNone, formR},
		{atPair, 0x8c61, 0, 0x00007033, sums, immNone, formR},
		{atPair, 0x9c01, 0, 0x4000003b, sums, immNone, formR},
		{atPair, 0x9c21, 0, 0x0000003b, sums, immNone, formR},
		{atKind, 0xa001, 0, 0x0000006f, 0, immJump, formJ},
		{atKind, 0xc001, 0, 0x00000063, rs1X, immBranch, formB},
		{atKind, 0xe001, 0, 0x00001063, rs1X, immBranch, formB},

		{atKind, 0x0002, 0, 0x00001013, sameD, immShift, formI},
		{atKind, 0x2002, 0, 0x00013007, rdD, immLoadDouble, formI},
		{atKind, 0x4002, bitsD, 0x00012003, rdD, immLoadWord, formI},
		{atKind, 0x6002, bitsD, 0x00013003, rdD, immLoadDouble, formI},
		{atNoT, 0x8002, bitsD, 0x00000067, rs1D, immNone, formR},
		{atBit12, 0x8002, bitsT, 0x00000033, rdD | rs2T, immNone, formR},
		{atAll, 0x9002, 0, 0x00100073, 0, immNone, formR},
		{atNoT, 0x9002, bitsD, 0x000000e7, rs1D, immNone, formR},
		{atBit12, 0x9002, bitsT, 0x00000033, sameD | rs2T, immNone, formR},
		{atKind, 0xa002, 0, 0x00013027, rs2T, immSaveDouble, formS},
		{atKind, 0xc002, 0, 0x00012023, rs2T, immSaveWord, formS},
		{atKind, 0xe002, 0, 0x00013023, rs2T, immSaveDouble, formS},
	}
}

// holds tells whether the row is a half's.
func (r row) holds(h uint16) bool {
	return h&r.mask == r.match && (r.some == 0 || h&r.some != 0)
}

// write tells the instruction that a half of the row stands for.
func (r row) write(h uint16) uint32 {
	return r.base | writeNames(r.names, h) | place(r.form, immediates[r.imm].gather(h))
}

// read tells the half of the row that has the instruction's registers and immediate, as far as the row has places for them.
func (r row) read(x uint32) uint16 {
	return r.match | readNames(r.names, x) | immediates[r.imm].scatter(take(r.form, x))
}
