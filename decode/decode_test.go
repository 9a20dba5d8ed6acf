package decode_test

import (
	"testing"

	"tandem/api"
	"tandem/decode"
)

// mix is a sequence of numbers that look like chance, the same in each run.
type mix uint64

func (m *mix) next() uint64 {
	*m += 0x9e3779b97f4a7c15
	z := uint64(*m)
	z = (z ^ z>>30) * 0xbf58476d1ce4e5b9
	z = (z ^ z>>27) * 0x94d049bb133111eb
	return z ^ z>>31
}

// eachShape hands on bits with every op, f3, f7 and rs2, and with rd and rs1 of several kinds: noughts, ones, single bits and mixed ones.
func eachShape(visit func(bits uint32)) {
	m := mix(3)
	for upper := uint32(0); upper < 1<<12; upper++ { // f7 and rs2
		for op := uint32(3); op < 1<<7; op += 4 {
			for f3 := uint32(0); f3 < 8; f3++ {
				b := upper<<20 | f3<<12 | op
				r := uint32(m.next())
				visit(b)
				visit(b | r&0x000f8f80)
				switch upper % 4 {
				case 0:
					visit(b | 0x000f8f80)
				case 1:
					visit(b | 1<<(7+r%5))
				case 2:
					visit(b | 1<<(15+r%5))
				}
			}
		}
	}
}

// TestEveryShape holds P3.1: what Decode tells is what the table has.
func TestEveryShape(t *testing.T) {
	faults := 0
	eachShape(func(b uint32) {
		if x := decode.Decode(b); x != told(b) && faults < 20 {
			faults++
			t.Errorf("%08x: %+v, not %+v", b, x, told(b))
		}
	})
}

// TestMixedBits holds P3.1 on bits of all places at once.
func TestMixedBits(t *testing.T) {
	m := mix(1)
	for range 1000000 {
		b := uint32(m.next())
		for _, b := range [...]uint32{b, b | 3, b&^0x7c | 0x53, b&^0x7c | 0x73} {
			if x := decode.Decode(b); x != told(b) {
				t.Fatalf("%08x: %+v, not %+v", b, x, told(b))
			}
		}
	}
}

// TestEveryKindIsThere holds P3.1: each kind but Illegal has bits among the shapes.
func TestEveryKindIsThere(t *testing.T) {
	var seen [api.Kinds]bool
	eachShape(func(b uint32) { seen[decode.Decode(b).Kind] = true })
	for kind, there := range seen {
		if !there {
			t.Errorf("kind %d has no bits", kind)
		}
	}
}

// TestImmediates holds P3.1 at the ends of the immediates, and bit by bit.
func TestImmediates(t *testing.T) {
	for _, c := range []struct {
		bits uint32
		imm  int64
	}{
		{0x7ff00013, 2047}, {0x80000013, -2048}, {0xfff00013, -1}, {0x00100003, 1}, {0x80000067, -2048}, {0x7ff02007, 2047},
		{0x00000fa3, 31}, {0x02000023, 32}, {0x7e000fa3, 2047}, {0x80000023, -2048}, {0xfe003fa7, -1},
		{0x00000163, 2}, {0x000000e3, 2048}, {0x00000e63, 28}, {0x02000063, 32}, {0x7e000fe3, 4094}, {0x80000063, -4096},
		{0x7ffff037, 0x7ffff000}, {0x80000037, -0x80000000}, {0xfffff017, -4096}, {0x00001037, 4096},
		{0x0000106f, 4096}, {0x0010006f, 2048}, {0x0020006f, 2}, {0x7fe0006f, 2046}, {0x000ff06f, 0xff000}, {0x7ffff06f, 0xffffe}, {0x8000006f, -0x100000},
		{0x03f01013, 63}, {0x02005013, 32}, {0x43f05013, 63}, {0x01f0101b, 31}, {0x41f0501b, 31}, {0x3000d073, 1}, {0x300ff073, 31},
	} {
		if x := decode.Decode(c.bits); x.Kind == api.Illegal || x.Imm != c.imm {
			t.Errorf("%08x: immediate %d, not %d (%+v)", c.bits, x.Imm, c.imm, x)
		}
	}
	for place := 7; place < 32; place++ {
		for _, op := range [...]uint32{0x13, 0x03, 0x67, 0x23, 0x63, 0x37, 0x17, 0x6f, 0x2007, 0x3027} {
			b := op | 1<<place
			if x := decode.Decode(b); x != told(b) {
				t.Errorf("%08x: %+v, not %+v", b, x, told(b))
			}
		}
	}
}

// TestNothing holds P3.1: what the table doesn't have is the instruction of zeros.
func TestNothing(t *testing.T) {
	for _, b := range []uint32{
		0, 0xffffffff, 0x0000006b, 0x00007003, 0x02a5d553,
		0x00001067, 0x00007067, // jalr with another f3
		0x00002063, 0x00003063, // branches
		0x00004023, 0x00007023, // stores
		0x04001013, 0x80001013, 0x40001013, 0x44005013, 0x20005013, // shifts with another f6
		0x0200101b, 0x0200501b, 0x4200501b, 0x4000101b, // shifts of words with another f7
		0x0000201b, 0x0000301b, 0x0000401b, 0x0000601b, 0x0000701b, // no such word
		0x40001033, 0x40002033, 0x40007033, 0x04000033, 0x03000033 | 0x80000000, 0x60000033,
		0x0000203b, 0x0000703b, 0x0200103b, 0x0200303b, 0x4000103b,
		0x0000200f, 0x0000700f,
		0x00000173, 0x00008073, 0x00200073, 0x00108073, 0x102000f3, 0x10208073, 0x30200f73, 0x20200073, 0x10500173, 0x10508073, // not all the bits
		0x120000f3, 0x12000f73, 0x13000073 | 0x80, 0x14000073, 0x00004073, 0x30004073, // sfence.vma with an rd, f3 4
		0x1010202f, 0x11f0202f, 0x0000102f, 0x0000402f, 0x0000702f, 0x2800202f, 0xf800202f, 0x7000202f | 0x08000000, // atomics
		0x00000007, 0x00001007, 0x00004007, 0x00000027, 0x00004027, // floats of no size
		0x04000043, 0x06000047, 0x0000504b, 0x0000604f, 0x04000053, 0x06000053,
		0x00005053, 0x00006053, 0x58100053, 0x58005053, 0x20003053, 0x28002053, 0xa0003053, 0xa0004053,
		0x40000053, 0x42100053, 0x40200053, 0x42200053, 0x40105053, 0x44000053,
		0xc0400053, 0xc1f00053, 0xd0400053, 0xc0005053, 0xd0006053, 0xe0100053, 0xe0101053, 0xe0002053, 0xf0100053, 0xf0001053, 0xe4000053, 0xf8000053,
	} {
		if x := decode.Decode(b); x != (api.Inst{}) {
			t.Errorf("%08x: %+v, not none", b, x)
		}
	}
}

// TestWhatMayBeAnything holds P3.1: bits that the table doesn't name change nothing.
func TestWhatMayBeAnything(t *testing.T) {
	m := mix(7)
	for range 10000 {
		r := uint32(m.next())
		if x := decode.Decode(0x0000000f | r&0xffff8f80); x != (api.Inst{Kind: api.Fence}) {
			t.Fatalf("a fence with %08x: %+v", r, x)
		}
		if x := decode.Decode(0x0000100f | r&0xffff8f80); x != (api.Inst{Kind: api.FenceI}) {
			t.Fatalf("a fence.i with %08x: %+v", r, x)
		}
		b := 0x0000302f | r&0xf9ff8f80
		if decode.Decode(b) != decode.Decode(b|0x06000000) {
			t.Fatalf("%08x: aq and rl count", b)
		}
	}
}
