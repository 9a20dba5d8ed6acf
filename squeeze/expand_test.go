package squeeze_test

import (
	"testing"

	"tandem/api"
	"tandem/decode"
	"tandem/squeeze"
)

// eachHalf goes through all halves.
func eachHalf(do func(h uint16)) {
	for h := range 1 << 16 {
		do(uint16(h))
	}
}

// TestShort holds P4.1: a half is a short one, if its lowest two bits are not both 1.
func TestShort(t *testing.T) {
	eachHalf(func(h uint16) {
		lowest, next := h%2 == 1, h/2%2 == 1
		if squeeze.Short(h) == (lowest && next) {
			t.Fatalf("%04x: %v", h, squeeze.Short(h))
		}
	})
}

// TestTable holds P4.1 for all halves: each stands for what the chapter's table says, or for nothing.
func TestTable(t *testing.T) {
	eachHalf(func(h uint16) {
		x, found := squeeze.Expand(h)
		if x != told(h) || found != (told(h) != 0) {
			t.Errorf("%04x: %08x, %v, not %08x", h, x, found, told(h))
		}
	})
}

// TestExamples holds the chapter's examples of halves, and those of the document.
func TestExamples(t *testing.T) {
	for h, x := range map[uint16]uint32{
		0x0001: 0x00000013, 0x1141: 0xff010113, 0x6085: 0x000010b7, 0x8082: 0x00008067, 0x9002: 0x00100073,
		0xe406: 0x00113423, 0x4505: 0x00100513, 0xa001: 0x0000006f, 0x8d91: 0x40c585b3, 0x4515: 0x00500513,
	} {
		if y, found := squeeze.Expand(h); !found || y != x {
			t.Errorf("%04x: %08x, %v, not %08x", h, y, found, x)
		}
	}
}

// TestRows holds P4.1 by instructions written out by hand: each row of the table, with its registers and its immediate at an end.
func TestRows(t *testing.T) {
	for h, want := range map[uint16]api.Inst{
		0x1ffc: {Kind: api.Add, Rd: 15, Rs1: 2, Imm: 1020, UseImm: true},
		0x0048: {Kind: api.Add, Rd: 10, Rs1: 2, Imm: 4, UseImm: true},
		0x3c7c: {Kind: api.FLoad, Rd: 15, Rs1: 8, Imm: 248, Size: 8},
		0x5f64: {Kind: api.Load, Rd: 9, Rs1: 14, Imm: 124, Size: 4},
		0x43c0: {Kind: api.Load, Rd: 8, Rs1: 15, Imm: 4, Size: 4},
		0x7ce0: {Kind: api.Load, Rd: 8, Rs1: 9, Imm: 248, Size: 8},
		0xbce0: {Kind: api.FStore, Rs1: 9, Rs2: 8, Imm: 248, Size: 8},
		0xdce0: {Kind: api.Store, Rs1: 9, Rs2: 8, Imm: 124, Size: 4},
		0xfce0: {Kind: api.Store, Rs1: 9, Rs2: 8, Imm: 248, Size: 8},
		0x1f81: {Kind: api.Add, Rd: 31, Rs1: 31, Imm: -32, UseImm: true},
		0x2ffd: {Kind: api.Add, Rd: 31, Rs1: 31, Imm: 31, UseImm: true, Word: true},
		0x5081: {Kind: api.Add, Rd: 1, Imm: -32, UseImm: true},
		0x7101: {Kind: api.Add, Rd: 2, Rs1: 2, Imm: -512, UseImm: true},
		0x617d: {Kind: api.Add, Rd: 2, Rs1: 2, Imm: 496, UseImm: true},
		0x7f81: {Kind: api.Lui, Rd: 31, Imm: -0x20000},
		0x607d: {Kind: api.Lui, Imm: 0x1f000},
		0x93fd: {Kind: api.Srl, Rd: 15, Rs1: 15, Imm: 63, UseImm: true},
		0x97fd: {Kind: api.Sra, Rd: 15, Rs1: 15, Imm: 63, UseImm: true},
		0x9bfd: {Kind: api.And, Rd: 15, Rs1: 15, Imm: -1, UseImm: true},
		0x8f85: {Kind: api.Sub, Rd: 15, Rs1: 15, Rs2: 9},
		0x8fa5: {Kind: api.Xor, Rd: 15, Rs1: 15, Rs2: 9},
		0x8fc5: {Kind: api.Or, Rd: 15, Rs1: 15, Rs2: 9},
		0x8fe5: {Kind: api.And, Rd: 15, Rs1: 15, Rs2: 9},
		0x9f85: {Kind: api.Sub, Rd: 15, Rs1: 15, Rs2: 9, Word: true},
		0x9fa5: {Kind: api.Add, Rd: 15, Rs1: 15, Rs2: 9, Word: true},
		0xb001: {Kind: api.Jal, Imm: -2048},
		0xaffd: {Kind: api.Jal, Imm: 2046},
		0xd381: {Kind: api.Beq, Rs1: 15, Imm: -256},
		0xec7d: {Kind: api.Bne, Rs1: 8, Imm: 254},
		0x1ffe: {Kind: api.Sll, Rd: 31, Rs1: 31, Imm: 63, UseImm: true},
		0x3ffe: {Kind: api.FLoad, Rd: 31, Rs1: 2, Imm: 504, Size: 8},
		0x5ffe: {Kind: api.Load, Rd: 31, Rs1: 2, Imm: 252, Size: 4},
		0x7ffe: {Kind: api.Load, Rd: 31, Rs1: 2, Imm: 504, Size: 8},
		0x8f82: {Kind: api.Jalr, Rs1: 31},
		0x8ffe: {Kind: api.Add, Rd: 31, Rs2: 31},
		0x9f82: {Kind: api.Jalr, Rd: 1, Rs1: 31},
		0x9ffe: {Kind: api.Add, Rd: 31, Rs1: 31, Rs2: 31},
		0xbffe: {Kind: api.FStore, Rs1: 2, Rs2: 31, Imm: 504, Size: 8},
		0xdffe: {Kind: api.Store, Rs1: 2, Rs2: 31, Imm: 252, Size: 4},
		0xfffe: {Kind: api.Store, Rs1: 2, Rs2: 31, Imm: 504, Size: 8},
	} {
		if bits, found := squeeze.Expand(h); !found || decode.Decode(bits) != want {
			t.Errorf("%04x: %08x, %v: %+v, not %+v", h, bits, found, decode.Decode(bits), want)
		}
	}
}

// TestNone holds P4.1: halves that stand for nothing, and beside each what stands for something but for the field that the table asks for.
func TestNone(t *testing.T) {
	for none, near := range map[uint16]uint16{
		0x0000: 0x0020, // an immediate of 0
		0x001c: 0x003c,
		0x2001: 0x2081, // register 0
		0x307d: 0x3ffd,
		0x6001: 0x6005, // an immediate of 0
		0x6f81: 0x7f81,
		0x6101: 0x6105,
		0x4002: 0x4082, // register 0
		0x507e: 0x50fe,
		0x6002: 0x6082,
		0x707e: 0x70fe,
		0x8002: 0x8082,
		0x9c41: 0x9c21, // sums that there are not
		0x9c61: 0x9c01,
		0x9ffd: 0x8ffd,
		0x8000: 0xa000, // what isn't named
		0x9ffc: 0xbffc,
		0xffff: 0xfffe, // what is no short one
		0x0003: 0x0002,
		0x8083: 0x8082,
	} {
		if x, found := squeeze.Expand(none); found || x != 0 {
			t.Errorf("%04x: %08x, %v, not nothing", none, x, found)
		}
		if x, found := squeeze.Expand(near); !found || x == 0 {
			t.Errorf("%04x: %08x, %v, not an instruction", near, x, found)
		}
	}
}

// TestHints holds P4.1: what changes nothing stands for what the table says all the same.
func TestHints(t *testing.T) {
	for h, x := range map[uint16]uint32{
		0x0005: 0x00100013, // register 0 with 1 added
		0x0081: 0x00008093, // register 1 with 0 added
		0x4005: 0x00100013, // 1 into register 0
		0x6005: 0x00001037, // 4096 into register 0
		0x8001: 0x00045413, // register 8 shifted by 0
		0x8401: 0x40045413,
		0x0002: 0x00001013, // register 0 shifted by 0
		0x8006: 0x00100033, // register 1 into register 0
		0x9006: 0x00100033, // register 1 added to register 0
	} {
		if y, found := squeeze.Expand(h); !found || y != x {
			t.Errorf("%04x: %08x, %v, not %08x", h, y, found, x)
		}
	}
}
