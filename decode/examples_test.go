package decode_test

import (
	"testing"

	"tandem/api"
	"tandem/decode"
)

// TestExamples holds the chapter's examples, and Encode on those that are instructions.
func TestExamples(t *testing.T) {
	for _, c := range []struct {
		bits uint32
		x    api.Inst
	}{
		{0x00000013, api.Inst{Kind: api.Add, UseImm: true}},
		{0xfff00093, api.Inst{Kind: api.Add, Rd: 1, Imm: -1, UseImm: true}},
		{0x00208463, api.Inst{Kind: api.Beq, Rs1: 1, Rs2: 2, Imm: 8}},
		{0xff9ff06f, api.Inst{Kind: api.Jal, Imm: -8}},
		{0x800000b7, api.Inst{Kind: api.Lui, Rd: 1, Imm: -1 << 31}},
		{0x02b50533, api.Inst{Kind: api.Mul, Rd: 10, Rs1: 10, Rs2: 11}},
		{0x300022f3, api.Inst{Kind: api.Csrrs, Rd: 5, Csr: 0x300}},
		{0x30035073, api.Inst{Kind: api.Csrrw, Csr: 0x300, Imm: 6, UseImm: true}},
		{0x1005272f, api.Inst{Kind: api.Lr, Rd: 14, Rs1: 10, Size: 4}},
		{0x02a58553, api.Inst{Kind: api.FAdd, Rd: 10, Rs1: 11, Rs2: 10, Size: 8}},
		{0xc2157553, api.Inst{Kind: api.FToInt, Rd: 10, Rs1: 10, Rm: 7, Size: 8, Word: true, Unsigned: true}},
		{0x00000000, api.Inst{}}, {0xffffffff, api.Inst{}}, {0x0000006b, api.Inst{}}, {0x00007003, api.Inst{}}, {0x02a5d553, api.Inst{}},
		// What the document's examples of the whole have.
		{0x00500513, api.Inst{Kind: api.Add, Rd: 10, Imm: 5, UseImm: true}},
		{0x00103503, api.Inst{Kind: api.Load, Rd: 10, Imm: 1, Size: 8}},
		{0xf1402573, api.Inst{Kind: api.Csrrs, Rd: 10, Csr: 0xf14}},
		{0x10500073, api.Inst{Kind: api.Wfi}},
		{0x02000537, api.Inst{Kind: api.Lui, Rd: 10, Imm: 0x02000000}},
		{0xff853583, api.Inst{Kind: api.Load, Rd: 11, Rs1: 10, Imm: -8, Size: 8}},
		{0x00000417, api.Inst{Kind: api.Auipc, Rd: 8}},
		{0x1004352f, api.Inst{Kind: api.Lr, Rd: 10, Rs1: 8, Size: 8}},
		{0x18a4362f, api.Inst{Kind: api.Sc, Rd: 12, Rs1: 8, Rs2: 10, Size: 8}},
		{0x0000f0d3, api.Inst{Kind: api.FAdd, Rd: 1, Rs1: 1, Rm: 7, Size: 4}},
	} {
		if x := decode.Decode(c.bits); x != c.x {
			t.Errorf("%08x: %+v, not %+v", c.bits, x, c.x)
		}
		b, ok := decode.Encode(c.x)
		if none := c.x.Kind == api.Illegal; none && (ok || b != 0) || !none && (!ok || b != c.bits) {
			t.Errorf("%+v: %08x, %v, not %08x", c.x, b, ok, c.bits)
		}
	}
}
