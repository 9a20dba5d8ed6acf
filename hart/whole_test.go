package hart_test

import (
	"testing"

	"tandem/api"
)

const top = 1 << 63

// one is a hart that comes to one instruction, with two registers' numbers: 5 and 6.
func one(t *testing.T, bits uint32, a, b uint64) *told {
	t.Helper()
	w := bare().laid(bits)
	w.x[5], w.x[6] = a, b
	return w.told(t)
}

// P16.3: Lui and Auipc.
func TestConstants(t *testing.T) {
	for _, imm := range []uint64{0, 0x1000, 0x12345000, 0x7ffff000, 0xffffffff80000000, 0xfffffffffffff000} {
		bits := bitsOf(t, api.Inst{Kind: api.Lui, Rd: 31, Imm: int64(imm)})
		one(t, bits, 1, 2).sets(bits, 31, imm)
		bits = bitsOf(t, api.Inst{Kind: api.Auipc, Rd: 5, Imm: int64(imm)})
		one(t, bits, 1, 2).sets(bits, 5, 0x80001000+imm)
	}
}

// P16.3: sums and the like, as words and wholes, of two registers and of one and an immediate.
func TestSums(t *testing.T) {
	for _, c := range []struct {
		kind int
		word bool
		a, b uint64
		want uint64
	}{
		{api.Add, false, 1<<64 - 1, 2, 1}, {api.Add, true, 0x7fffffff, 1, 0xffffffff80000000},
		{api.Sub, false, 3, 5, 1<<64 - 2}, {api.Sub, true, 0x180000000, 1, 0x7fffffff},
		{api.Sll, false, 3, 0x47, 384}, {api.Sll, true, 1, 31, 0xffffffff80000000},
		{api.Slt, false, 1<<64 - 1, 0, 1}, {api.Slt, false, 0, 1<<64 - 1, 0},
		{api.Sltu, false, 1<<64 - 1, 0, 0}, {api.Sltu, false, 0, 1<<64 - 1, 1},
		{api.Xor, false, 12, 10, 6}, {api.Or, false, 12, 10, 14}, {api.And, false, 12, 10, 8},
		{api.Srl, false, top, 63, 1}, {api.Srl, true, 0xf80000000, 4, 0x08000000},
		{api.Sra, false, top, 63, 1<<64 - 1}, {api.Sra, true, 0x80000000, 4, 0xfffffffff8000000},
		{api.Mul, false, 1 << 32, 1<<32 + 7, 7 << 32}, {api.Mul, true, 0x10001, 0x10001, 0x20001},
		{api.Mulh, false, 1<<64 - 1, 1<<64 - 1, 0}, {api.Mulhsu, false, 1<<64 - 1, 1<<64 - 1, 1<<64 - 1}, {api.Mulhu, false, 1<<64 - 1, 1<<64 - 1, 1<<64 - 2},
		{api.Div, false, 1<<64 - 7, 2, 1<<64 - 3}, {api.Div, false, 7, 0, 1<<64 - 1}, {api.Div, true, 0x80000000, 0xffffffff, 0xffffffff80000000},
		{api.Divu, false, 1<<64 - 7, 2, 1<<63 - 4}, {api.Divu, true, 1<<64 - 1, 1, 1<<64 - 1},
		{api.Rem, false, 1<<64 - 7, 2, 1<<64 - 1}, {api.Rem, true, 7, 0, 7},
		{api.Remu, false, 1<<64 - 7, 2, 1}, {api.Remu, true, 0x80000000, 0, 0xffffffff80000000},
	} {
		bits := bitsOf(t, api.Inst{Kind: c.kind, Rd: 4, Rs1: 5, Rs2: 6, Word: c.word})
		one(t, bits, c.a, c.b).sets(bits, 4, c.want)
		bits = bitsOf(t, api.Inst{Kind: c.kind, Rd: 5, Rs1: 5, Rs2: 6, Word: c.word})
		one(t, bits, c.a, c.b).sets(bits, 5, c.want)
		bits = bitsOf(t, api.Inst{Kind: c.kind, Rs1: 5, Rs2: 6, Word: c.word})
		one(t, bits, c.a, c.b).does(bits, api.Record{}, nil)
	}
}

// P16.3: the second one is the immediate, if there is one.
func TestImmediates(t *testing.T) {
	for _, c := range []struct {
		kind int
		word bool
		a    uint64
		imm  int64
		want uint64
	}{
		{api.Add, false, 5, -6, 1<<64 - 1}, {api.Add, true, 0x7fffffff, 1, 0xffffffff80000000}, {api.Add, false, 5, 0, 5},
		{api.Slt, false, 1<<64 - 3, -2, 1}, {api.Sltu, false, 1<<64 - 3, -2, 1}, {api.Sltu, false, 3, -2048, 1},
		{api.Xor, false, 0xff, -1, 0xffffffffffffff00}, {api.Or, false, 1, 2046, 2047}, {api.And, false, 0x12345, -16, 0x12340},
		{api.Sll, false, 1, 63, top}, {api.Srl, false, top, 63, 1}, {api.Sra, false, top, 62, 1<<64 - 2},
		{api.Sll, true, 3, 31, 0xffffffff80000000}, {api.Srl, true, 1<<64 - 1, 31, 1}, {api.Sra, true, 0x80000000, 31, 1<<64 - 1},
	} {
		bits := bitsOf(t, api.Inst{Kind: c.kind, Rd: 4, Rs1: 5, Imm: c.imm, Word: c.word, UseImm: true})
		one(t, bits, c.a, 77).sets(bits, 4, c.want)
	}
}

// P16.3: branches, there and back.
func TestBranches(t *testing.T) {
	const low = 1<<64 - 1
	for _, c := range []struct {
		kind  int
		a, b  uint64
		taken bool
	}{
		{api.Beq, 7, 7, true}, {api.Beq, 7, 7 + top, false}, {api.Bne, 7, 7, false}, {api.Bne, 7, 7 + top, true},
		{api.Blt, low, 0, true}, {api.Blt, 0, low, false}, {api.Blt, 1, 1, false},
		{api.Bge, low, 0, false}, {api.Bge, 0, low, true}, {api.Bge, 1, 1, true},
		{api.Bltu, low, 0, false}, {api.Bltu, 0, low, true}, {api.Bltu, 1, 1, false},
		{api.Bgeu, low, 0, true}, {api.Bgeu, 0, low, false}, {api.Bgeu, 1, 1, true},
	} {
		for _, imm := range []int64{8, -8, 2, -4096, 4094, 0} {
			bits := bitsOf(t, api.Inst{Kind: c.kind, Rs1: 5, Rs2: 6, Imm: imm})
			next := uint64(0x80001004)
			if c.taken {
				next = 0x80001000 + uint64(imm)
			}
			one(t, bits, c.a, c.b).does(bits, api.Record{Next: next}, nil)
		}
	}
}

// P16.3: jumps, and where they come from.
func TestJumps(t *testing.T) {
	for _, imm := range []int64{8, -8, 2, 0, -1 << 20, 1<<20 - 2} {
		bits := bitsOf(t, api.Inst{Kind: api.Jal, Rd: 1, Imm: imm})
		one(t, bits, 1, 2).does(bits, api.Record{Reg: api.RegX, Rd: 1, Value: 0x80001004, Next: 0x80001000 + uint64(imm)}, nil)
		bits = bitsOf(t, api.Inst{Kind: api.Jal, Imm: imm})
		one(t, bits, 1, 2).does(bits, api.Record{Next: 0x80001000 + uint64(imm)}, nil)
	}
	for _, c := range []struct {
		a    uint64
		imm  int64
		next uint64
	}{{0x80002000, 4, 0x80002004}, {0x80002000, 5, 0x80002004}, {0x80002001, 5, 0x80002006}, {0x80002001, -1, 0x80002000}, {0x80002001, 0, 0x80002000}, {1, -4, 1<<64 - 4}, {1<<64 - 1, 2047, 2046}} {
		for _, rd := range []int{1, 5} {
			bits := bitsOf(t, api.Inst{Kind: api.Jalr, Rd: rd, Rs1: 5, Imm: c.imm})
			one(t, bits, c.a, 2).does(bits, api.Record{Reg: api.RegX, Rd: rd, Value: 0x80001004, Next: c.next}, nil)
		}
		bits := bitsOf(t, api.Inst{Kind: api.Jalr, Rs1: 5, Imm: c.imm})
		one(t, bits, c.a, 2).does(bits, api.Record{Next: c.next}, nil)
	}
}

// P16.3: jumps and branches of 2 bytes come from 2 bytes ahead.
func TestShortJumps(t *testing.T) {
	one(t, 0x9282, 0x80002001, 2).does(0x9282, api.Record{Reg: api.RegX, Rd: 1, Value: 0x80001002, Next: 0x80002000}, nil) // c.jalr x5
	one(t, 0x8282, 0x80002001, 2).does(0x8282, api.Record{Next: 0x80002000}, nil)                                          // c.jr x5
	one(t, 0xa001, 1, 2).does(0xa001, api.Record{Next: 0x80001000}, nil)                                                   // c.j by 0
	one(t, 0xbffd, 1, 2).does(0xbffd, api.Record{Next: 0x80000ffe}, nil)                                                   // c.j by -2
	w := bare().laid(0xc401, 0xe401)                                                                                       // c.beqz, c.bnez x8, by 8
	w.x[8] = 1
	o := w.told(t)
	o.does(0xc401, api.Record{Next: 0x80001002}, nil)
	o.does(0xe401, api.Record{Next: 0x8000100a}, nil)
}

// P16.3: the register 0 is never set, and no record says so.
func TestRegisterNought(t *testing.T) {
	for _, x := range []api.Inst{
		{Kind: api.Lui, Imm: 0x1000}, {Kind: api.Auipc}, {Kind: api.Add, Rs1: 5, Rs2: 5}, {Kind: api.Mul, Rs1: 5, Rs2: 5, Word: true},
		{Kind: api.Csrrs, Csr: 0x340}, {Kind: api.Csrrc, Csr: 0x301},
		{Kind: api.FEq, Size: 8, Rs1: 1, Rs2: 1}, {Kind: api.FClass, Size: 8, Rs1: 1}, {Kind: api.FMoveX, Size: 8, Rs1: 1}, {Kind: api.FMoveX, Size: 4, Rs1: 1},
	} {
		bits := bitsOf(t, x)
		one(t, bits, data, 5).does(bits, api.Record{}, nil)
	}
	bits := bitsOf(t, api.Inst{Kind: api.Load, Rs1: 5, Size: 1})
	one(t, bits, data, 5).does(bits, api.Record{Mem: api.Read, Addr: data, Size: 1}, nil)
	bits = bitsOf(t, api.Inst{Kind: api.AmoSwap, Rs1: 5, Rs2: 6, Size: 4})
	one(t, bits, data, 5).does(bits, api.Record{Mem: api.Atomic, Addr: data, Size: 4, Data: 5}, nil)
	bits = bitsOf(t, api.Inst{Kind: api.FToInt, Size: 8, Rs1: 1})
	one(t, bits, data, 5).does(bits, api.Record{}, func(s *api.State) { // 1 and a little: inexact
		s.C.Fcsr, s.C.Mstatus = 1, s.C.Mstatus|fs|sd
	})
}

// P16.3: fences do nothing.
func TestFences(t *testing.T) {
	for _, mode := range []int{inU, inS, inM} {
		for _, bits := range []uint32{0x0000000f, 0x0ff0000f, 0xffff8f8f, 0x0000100f, 0xfff01f8f} {
			w := bare().laid(bits)
			w.mode = mode
			w.told(t).does(bits, api.Record{}, nil)
		}
	}
}

// P16.3: what is none traps with its bytes, in each mode.
func TestNone(t *testing.T) {
	for _, mode := range []int{inU, inS, inM} {
		for _, bits := range []uint32{0, 0x8000, 0x2001, 0x6101, 0x8002, 0x9c41, 0x4002, 0xffffffff, 0x0000006b, 0x00007003, 0x02a5d553, 0x00000007, 0x00200073, 0x12000173, 0x70200073} {
			w := bare().laid(bits, 0x00000013)
			w.mode = mode
			w.told(t).refused(bits)
		}
	}
}
