package decode_test

import (
	"slices"

	"tandem/api"
)

// The chapter's table, read a second time: as a switch over the op, with immediates gathered bit by bit, so that a slip in the program's rows isn't repeated here.

// gather tells the number whose bits, from the highest on, stand at these places.
func gather(b uint32, places ...int) int64 {
	var n int64
	for _, p := range places {
		n = n<<1 | int64(b>>p&1)
	}
	return n
}

// span tells the places from one down to another.
func span(high, low int) []int {
	var places []int
	for p := high; p >= low; p-- {
		places = append(places, p)
	}
	return places
}

func part(b uint32, high, low int) int { return int(b << (31 - high) >> (31 - high + low)) }

// extended tells the number of so many bits, with its sign.
func extended(n int64, bits int) int64 {
	if n>>(bits-1)&1 == 1 {
		return n - 1<<bits
	}
	return n
}

// Where the immediates' bits stand, from the highest on.
var (
	placesI = span(31, 20)
	placesS = slices.Concat(span(31, 25), span(11, 7))
	placesB = slices.Concat([]int{31, 7}, span(30, 25), span(11, 8))
	placesU = span(31, 12)
	placesJ = slices.Concat([]int{31}, span(19, 12), []int{20}, span(30, 21))
)

func immI(b uint32) int64 { return extended(gather(b, placesI...), 12) }
func immS(b uint32) int64 { return extended(gather(b, placesS...), 12) }
func immB(b uint32) int64 { return extended(2*gather(b, placesB...), 13) }
func immU(b uint32) int64 { return extended(4096*gather(b, placesU...), 32) }
func immJ(b uint32) int64 { return extended(2*gather(b, placesJ...), 21) }

// told is what the table has for bits.
func told(b uint32) api.Inst {
	rd, f3, rs1, rs2 := part(b, 11, 7), part(b, 14, 12), part(b, 19, 15), part(b, 24, 20)
	switch b & 0x7f {
	case 0x37:
		return api.Inst{Kind: api.Lui, Rd: rd, Imm: immU(b)}
	case 0x17:
		return api.Inst{Kind: api.Auipc, Rd: rd, Imm: immU(b)}
	case 0x6f:
		return api.Inst{Kind: api.Jal, Rd: rd, Imm: immJ(b)}
	case 0x67:
		if f3 == 0 {
			return api.Inst{Kind: api.Jalr, Rd: rd, Rs1: rs1, Imm: immI(b)}
		}
	case 0x63:
		kinds := [8]int{api.Beq, api.Bne, 0, 0, api.Blt, api.Bge, api.Bltu, api.Bgeu}
		if kinds[f3] != 0 {
			return api.Inst{Kind: kinds[f3], Rs1: rs1, Rs2: rs2, Imm: immB(b)}
		}
	case 0x03:
		x := api.Inst{Kind: api.Load, Rd: rd, Rs1: rs1, Imm: immI(b)}
		x.Size = []int{1, 2, 4, 8, 1, 2, 4, 0}[f3]
		x.Unsigned = f3 > 3
		if f3 < 7 {
			return x
		}
	case 0x23:
		if f3 < 4 {
			return api.Inst{Kind: api.Store, Rs1: rs1, Rs2: rs2, Imm: immS(b), Size: []int{1, 2, 4, 8}[f3]}
		}
	case 0x07:
		if f3 == 2 || f3 == 3 {
			return api.Inst{Kind: api.FLoad, Rd: rd, Rs1: rs1, Imm: immI(b), Size: []int{4, 8}[f3-2]}
		}
	case 0x27:
		if f3 == 2 || f3 == 3 {
			return api.Inst{Kind: api.FStore, Rs1: rs1, Rs2: rs2, Imm: immS(b), Size: []int{4, 8}[f3-2]}
		}
	case 0x13, 0x1b:
		return toldWithImm(b)
	case 0x33, 0x3b:
		return toldOfRegs(b)
	case 0x0f:
		if f3 < 2 {
			return api.Inst{Kind: []int{api.Fence, api.FenceI}[f3]}
		}
	case 0x73:
		return toldSystem(b)
	case 0x2f:
		return toldAtomic(b)
	case 0x43, 0x47, 0x4b, 0x4f:
		return toldFused(b)
	case 0x53:
		return toldFloat(b)
	}
	return api.Inst{}
}

func toldWithImm(b uint32) api.Inst {
	f3, f6, f7 := part(b, 14, 12), part(b, 31, 26), part(b, 31, 25)
	x := api.Inst{Rd: part(b, 11, 7), Rs1: part(b, 19, 15), UseImm: true, Word: b&0x7f == 0x1b}
	if f3 == 1 || f3 == 5 {
		x.Imm = int64(part(b, 25, 20))
		if x.Word {
			x.Imm = int64(part(b, 24, 20))
		}
		switch {
		case f3 == 1 && (x.Word && f7 == 0 || !x.Word && f6 == 0):
			x.Kind = api.Sll
		case f3 == 5 && (x.Word && f7 == 0 || !x.Word && f6 == 0):
			x.Kind = api.Srl
		case f3 == 5 && (x.Word && f7 == 0x20 || !x.Word && f6 == 0x10):
			x.Kind = api.Sra
		default:
			return api.Inst{}
		}
		return x
	}
	x.Imm = immI(b)
	x.Kind = [8]int{api.Add, 0, api.Slt, api.Sltu, api.Xor, 0, api.Or, api.And}[f3]
	if x.Word && f3 != 0 {
		return api.Inst{}
	}
	return x
}

func toldOfRegs(b uint32) api.Inst {
	f3 := part(b, 14, 12)
	x := api.Inst{Rd: part(b, 11, 7), Rs1: part(b, 19, 15), Rs2: part(b, 24, 20), Word: b&0x7f == 0x3b}
	var kinds [8]int
	switch part(b, 31, 25) {
	case 0:
		kinds = [8]int{api.Add, api.Sll, api.Slt, api.Sltu, api.Xor, api.Srl, api.Or, api.And}
		if x.Word {
			kinds = [8]int{api.Add, api.Sll, 0, 0, 0, api.Srl, 0, 0}
		}
	case 0x20:
		kinds = [8]int{0: api.Sub, 5: api.Sra}
	case 1:
		kinds = [8]int{api.Mul, api.Mulh, api.Mulhsu, api.Mulhu, api.Div, api.Divu, api.Rem, api.Remu}
		if x.Word {
			kinds[1], kinds[2], kinds[3] = 0, 0, 0
		}
	}
	if kinds[f3] == 0 {
		return api.Inst{}
	}
	x.Kind = kinds[f3]
	return x
}

func toldSystem(b uint32) api.Inst {
	rd, f3, rs1, rs2 := part(b, 11, 7), part(b, 14, 12), part(b, 19, 15), part(b, 24, 20)
	switch b {
	case 0x00000073:
		return api.Inst{Kind: api.Ecall}
	case 0x00100073:
		return api.Inst{Kind: api.Ebreak}
	case 0x10200073:
		return api.Inst{Kind: api.Sret}
	case 0x30200073:
		return api.Inst{Kind: api.Mret}
	case 0x10500073:
		return api.Inst{Kind: api.Wfi}
	}
	if f3 == 0 && part(b, 31, 25) == 9 && rd == 0 {
		return api.Inst{Kind: api.SfenceVma, Rs1: rs1, Rs2: rs2}
	}
	kinds := [4]int{0, api.Csrrw, api.Csrrs, api.Csrrc}
	if f3 == 1 || f3 == 2 || f3 == 3 {
		return api.Inst{Kind: kinds[f3], Rd: rd, Rs1: rs1, Csr: part(b, 31, 20)}
	}
	if f3 == 5 || f3 == 6 || f3 == 7 {
		return api.Inst{Kind: kinds[f3-4], Rd: rd, Csr: part(b, 31, 20), UseImm: true, Imm: int64(rs1)}
	}
	return api.Inst{}
}

func toldAtomic(b uint32) api.Inst {
	x := api.Inst{Rd: part(b, 11, 7), Rs1: part(b, 19, 15), Rs2: part(b, 24, 20)}
	switch part(b, 14, 12) {
	case 2:
		x.Size = 4
	case 3:
		x.Size = 8
	default:
		return api.Inst{}
	}
	switch part(b, 31, 27) {
	case 2:
		if x.Rs2 != 0 {
			return api.Inst{}
		}
		x.Kind = api.Lr
	case 3:
		x.Kind = api.Sc
	case 1:
		x.Kind = api.AmoSwap
	case 0:
		x.Kind = api.AmoAdd
	case 4:
		x.Kind = api.AmoXor
	case 0xc:
		x.Kind = api.AmoAnd
	case 8:
		x.Kind = api.AmoOr
	case 0x10:
		x.Kind = api.AmoMin
	case 0x14:
		x.Kind = api.AmoMax
	case 0x18:
		x.Kind = api.AmoMinu
	case 0x1c:
		x.Kind = api.AmoMaxu
	default:
		return api.Inst{}
	}
	return x
}

// rounds tells whether f3 is a rounding mode that an instruction may name.
func rounds(f3 int) bool { return f3 != 5 && f3 != 6 }

func toldFused(b uint32) api.Inst {
	f3, fmt := part(b, 14, 12), part(b, 26, 25)
	if fmt > 1 || !rounds(f3) {
		return api.Inst{}
	}
	x := api.Inst{Rd: part(b, 11, 7), Rs1: part(b, 19, 15), Rs2: part(b, 24, 20), Rs3: part(b, 31, 27), Rm: f3}
	x.Size = []int{4, 8}[fmt]
	x.Kind = map[uint32]int{0x43: api.FMadd, 0x47: api.FMsub, 0x4b: api.FNmsub, 0x4f: api.FNmadd}[b&0x7f]
	return x
}

func toldFloat(b uint32) api.Inst {
	f3, fmt, rs2 := part(b, 14, 12), part(b, 26, 25), part(b, 24, 20)
	if fmt > 1 {
		return api.Inst{}
	}
	two := api.Inst{Rd: part(b, 11, 7), Rs1: part(b, 19, 15), Size: []int{4, 8}[fmt]}
	three := two
	three.Rs2 = rs2
	round := func(x api.Inst, kind int, may bool) api.Inst {
		if !may || !rounds(f3) {
			return api.Inst{}
		}
		x.Kind, x.Rm = kind, f3
		return x
	}
	byF3 := func(x api.Inst, may bool, kinds ...int) api.Inst {
		if !may || f3 >= len(kinds) {
			return api.Inst{}
		}
		x.Kind = kinds[f3]
		return x
	}
	whole := two
	whole.Word, whole.Unsigned = rs2 < 2, rs2%2 == 1
	switch part(b, 31, 27) {
	case 0:
		return round(three, api.FAdd, true)
	case 1:
		return round(three, api.FSub, true)
	case 2:
		return round(three, api.FMul, true)
	case 3:
		return round(three, api.FDiv, true)
	case 0xb:
		return round(two, api.FSqrt, rs2 == 0)
	case 4:
		return byF3(three, true, api.FSgnj, api.FSgnjn, api.FSgnjx)
	case 5:
		return byF3(three, true, api.FMin, api.FMax)
	case 0x14:
		return byF3(three, true, api.FLe, api.FLt, api.FEq)
	case 8:
		return round(two, api.FConvert, rs2+fmt == 1)
	case 0x18:
		return round(whole, api.FToInt, rs2 < 4)
	case 0x1a:
		return round(whole, api.FFromInt, rs2 < 4)
	case 0x1c:
		return byF3(two, rs2 == 0, api.FMoveX, api.FClass)
	case 0x1e:
		return byF3(two, rs2 == 0, api.FMoveF)
	}
	return api.Inst{}
}
