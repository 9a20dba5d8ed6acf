package squeeze_test

import (
	"testing"

	"tandem/decode"
	"tandem/squeeze"
)

// leastHalves tells by the chapter's table the least half for each instruction that has one.
func leastHalves() map[uint32]uint16 {
	least := map[uint32]uint16{}
	eachHalf(func(h uint16) {
		x := told(h)
		if _, found := least[x]; x != 0 && !found {
			least[x] = h
		}
	})
	return least
}

// holdShrink tells whether Shrink's answer is the least half, or that there is none.
func holdShrink(t *testing.T, least map[uint32]uint16, x uint32) {
	h, found := squeeze.Shrink(x)
	if want, has := least[x]; h != want || found != has {
		t.Fatalf("%08x: %04x, %v, not %04x, %v", x, h, found, want, has)
	}
}

// TestShrink holds P4.2 for each instruction that a half stands for, and for each that one bit parts from one.
func TestShrink(t *testing.T) {
	least := leastHalves()
	for x := range least {
		holdShrink(t, least, x)
		for bit := range 32 {
			holdShrink(t, least, x^1<<bit)
		}
	}
}

// TestShrinkAnything holds P4.2 for bits of any kind, most of which no half stands for.
func TestShrinkAnything(t *testing.T) {
	least := leastHalves()
	state := uint64(4)
	for range 300000 {
		state = state*6364136223846793005 + 1442695040888963407
		x := uint32(state >> 32)
		holdShrink(t, least, x)
		holdShrink(t, least, x>>16)
		// Those that halves stand for have small numbers in many fields.
		holdShrink(t, least, x&0x81f7ffff|0x3)
	}
}

// TestShrinkFields holds P4.2 for all registers and functions of each kind that halves stand for, with small immediates and great ones.
func TestShrinkFields(t *testing.T) {
	least := leastHalves()
	for _, op := range []uint32{0x03, 0x07, 0x13, 0x1b, 0x23, 0x27, 0x33, 0x3b, 0x37, 0x63, 0x67, 0x6f, 0x73} {
		for _, upper := range []uint32{0, 1, 2, 3, 31, 32, 63, 64, 126, 127} {
			for middle := range uint32(1 << 13) {
				rs1, f3, rd := middle>>8, middle>>5&7, middle&31
				for _, rs2 := range []uint32{0, 2, rs1, 8, 31} {
					holdShrink(t, least, formR(upper, rs2, rs1, f3, rd, op))
				}
			}
		}
	}
}

// TestLeast holds P4.2 where several halves stand for one instruction: the least of them is told.
func TestLeast(t *testing.T) {
	for _, c := range []struct {
		x      uint32
		halves []uint16 // from the least one on
	}{
		{0x00000013, []uint16{0x0001, 0x4001}}, // register 0: with 0 added, or 0 into it
		{0xfff00013, []uint16{0x107d, 0x507d}},
		{0x00100033, []uint16{0x8006, 0x9006}}, // register 1 into register 0, or added to it
		{0x01f00033, []uint16{0x807e, 0x907e}},
		{0x01010113, []uint16{0x0141, 0x6141}}, // 16 added to register 2
		{0xff010113, []uint16{0x1141, 0x717d}},
		{0xfe010113, []uint16{0x1101, 0x713d}},
	} {
		for k, h := range c.halves {
			if x, found := squeeze.Expand(h); !found || x != c.x || k > 0 && h <= c.halves[0] {
				t.Errorf("%04x: %08x, %v, not %08x", h, x, found, c.x)
			}
		}
		if h, found := squeeze.Shrink(c.x); !found || h != c.halves[0] {
			t.Errorf("%08x: %04x, %v, not %04x", c.x, h, found, c.halves[0])
		}
	}
}

// TestShrinkNone holds P4.2: instructions near to such that halves stand for, and what is none.
func TestShrinkNone(t *testing.T) {
	for _, x := range []uint32{
		0x00000033, // the chapter's example: register 0 into register 0
		0x00000000, 0xffffffff, 0x00000001, 0x00000002, 0x00004505,
		0x02008093, // 32 added to register 1
		0xfdf08093, // -33
		0x20010113, // 512 added to register 2
		0x00a10413, // 10 added to register 2, into register 8
		0x40010413, // 1024
		0x00210093, // 2 added to register 2, into register 1
		0x00000037, // 0 into register 0
		0x00001137, // 4096 into register 2
		0x00020537, // 0x20000 into register 10
		0x0000001b, // a word of register 0
		0x00c53583, // a double from register 10 and 12
		0x10053583, // from 256
		0x0003b583, // from register 7
		0x00013003, // into register 0
		0x00151593, // register 10 shifted into register 11
		0x0013d393, // register 7 shifted down
		0x00000067, // to register 0
		0x00408067, // to register 1 and 4
		0x00008167, // by register 2
		0x000000ef, // a jump by register 1
		0x0010006f, // a jump past 2048
		0x10050063, // a branch past 256
		0x00b50063, // a branch by two registers
		0x00054063, // a branch that is neither beq nor bne
		0x00a58533, // a sum of two others
		0x02b50533, // a product
		0x00a505bb, // a word's sum of two others
		0x00000073, 0x00200073,
	} {
		if h, found := squeeze.Shrink(x); found || h != 0 {
			t.Errorf("%08x: %04x, %v, not none", x, h, found)
		}
	}
}

// TestShrinkExamples holds the chapter's examples of Shrink.
func TestShrinkExamples(t *testing.T) {
	for x, h := range map[uint32]uint16{0x00000013: 0x0001, 0x00008067: 0x8082, 0x00100073: 0x9002} {
		if k, found := squeeze.Shrink(x); !found || k != h {
			t.Errorf("%08x: %04x, %v, not %04x", x, k, found, h)
		}
	}
}

// TestThereAndBack holds P4.3, and that each instruction which a half stands for is one that decode knows.
func TestThereAndBack(t *testing.T) {
	eachHalf(func(h uint16) {
		x, found := squeeze.Expand(h)
		if !found {
			return
		}
		if x%4 != 3 || decode.Decode(x).Kind == 0 {
			t.Fatalf("%04x: %08x is no instruction of 32 bits", h, x)
		}
		least, found := squeeze.Shrink(x)
		if !found || least > h {
			t.Fatalf("%04x: %08x, back %04x, %v", h, x, least, found)
		}
		if y, found := squeeze.Expand(least); !found || y != x {
			t.Fatalf("%04x: %08x, back %04x, that is %08x, %v", h, x, least, y, found)
		}
	})
}
