package hart_test

import (
	"testing"

	"tandem/api"
)

// The numbers of some floats, of 8 bytes and of 4 as a register holds them.
const (
	one8, two8, three8 = 0x3ff0000000000000, 0x4000000000000000, 0x4008000000000000
	minus8             = 1 << 63
	quiet8             = 0x7ff8000000000000
	boxed              = 0xffffffff00000000
	one4, two4, three4 = boxed | 0x3f800000, boxed | 0x40000000, boxed | 0x40400000
	minus4             = 0x80000000
	quiet4             = boxed | 0x7fc00000
)

// figured is a hart that comes to an instruction, with three floats: 5, 6 and 7.
func figured(t *testing.T, bits uint32, status, fcsr, a, b, c uint64) *told {
	t.Helper()
	w := bare().laid(bits)
	w.status, w.f[5], w.f[6], w.f[7] = status, a, b, c
	w.lay(3, fcsr)
	return w.told(t)
}

// floated is the record of a float, into 4.
func floated(v uint64) api.Record {
	return api.Record{Reg: api.RegF, Rd: 4, Value: v}
}

// flags raises some.
func flags(l uint64) func(*api.State) {
	return func(s *api.State) {
		s.C.Fcsr |= l
		if l != 0 {
			s.C.Mstatus |= fs | sd
		}
	}
}

// P16.3: sums, differences, products, quotients and roots.
func TestFigures(t *testing.T) {
	for _, c := range []struct {
		kind, size int
		a, b       uint64
		want       uint64
		flags      uint64
	}{
		{api.FAdd, 8, one8, two8, three8, 0}, {api.FAdd, 4, one4, two4, three4, 0}, {api.FAdd, 8, one8, 0x3ca0000000000000, one8, 1},
		{api.FSub, 8, three8, one8, two8, 0}, {api.FSub, 4, three4, one4, two4, 0},
		{api.FMul, 8, two8, three8, 0x4018000000000000, 0}, {api.FMul, 4, two4, three4, boxed | 0x40c00000, 0}, {api.FMul, 4, boxed | 1, boxed | 0x3f000000, boxed, 3},
		{api.FDiv, 8, three8, two8, 0x3ff8000000000000, 0}, {api.FDiv, 4, one4, three4, boxed | 0x3eaaaaab, 1}, {api.FDiv, 8, one8, 0, 0x7ff0000000000000, 8},
		{api.FAdd, 4, boxed | 0x7f7fffff, boxed | 0x7f7fffff, boxed | 0x7f800000, 5},
		{api.FSub, 8, 0x7ff0000000000000, 0x7ff0000000000000, quiet8, 16},
		{api.FAdd, 4, one8, one4, quiet4, 0}, {api.FAdd, 4, one4, 0xfffffffe3f800000, quiet4, 0}, {api.FMul, 4, 0x3f800000, one4, quiet4, 0},
	} {
		for _, was := range []uint64{0, 2, 24} {
			bits := bitsOf(t, api.Inst{Kind: c.kind, Rd: 4, Rs1: 5, Rs2: 6, Size: c.size})
			figured(t, bits, fs, was, c.a, c.b, 0).does(bits, floated(c.want), flags(c.flags))
		}
	}
	for _, c := range []struct {
		size  int
		a     uint64
		want  uint64
		flags uint64
	}{{8, 0x4022000000000000, three8, 0}, {4, two4, boxed | 0x3fb504f3, 1}, {4, one4 | minus4, quiet4, 16}, {4, one8, quiet4, 0}} {
		bits := bitsOf(t, api.Inst{Kind: api.FSqrt, Rd: 4, Rs1: 5, Size: c.size})
		figured(t, bits, fs, 0, c.a, 0, 0).does(bits, floated(c.want), flags(c.flags))
	}
}

// P16.3: sums of products, with each sign.
func TestFiguresOfThree(t *testing.T) {
	for _, c := range []struct {
		kind    int
		want    uint64 // of 2, 3 and 1
		nought8 uint64 // of 0, 1 and 0
	}{{api.FMadd, 0x401c000000000000, 0}, {api.FMsub, 0x4014000000000000, 0}, {api.FNmsub, 0xc014000000000000, 0}, {api.FNmadd, 0xc01c000000000000, minus8}} {
		x := api.Inst{Kind: c.kind, Rd: 4, Rs1: 5, Rs2: 6, Rs3: 7, Size: 8}
		bits := bitsOf(t, x)
		figured(t, bits, fs, 0, two8, three8, one8).does(bits, floated(c.want), nil)
		figured(t, bits, fs, 0, 0, one8, 0).does(bits, floated(c.nought8), nil)
		x.Size = 4
		bits = bitsOf(t, x)
		want := map[uint64]uint64{0x401c000000000000: 0x40e00000, 0x4014000000000000: 0x40a00000, 0xc014000000000000: 0xc0a00000, 0xc01c000000000000: 0xc0e00000}[c.want]
		figured(t, bits, fs, 0, two4, three4, one4).does(bits, floated(boxed|want), nil)
		figured(t, bits, fs, 0, two4, three4, one8).does(bits, floated(quiet4), nil)
		figured(t, bits, fs, 0, boxed, boxed|0x7f800000, one4).does(bits, floated(quiet4), flags(16))
		// Each one rounds once.
		x.Rm = 3
		bits = bitsOf(t, x)
		want = map[int]uint64{api.FMadd: 0x3f800001, api.FMsub: 0x3f800000, api.FNmsub: 0xbf7fffff, api.FNmadd: 0xbf800000}[c.kind]
		figured(t, bits, fs, 0, one4, one4, boxed|1).does(bits, floated(boxed|want), flags(1))
	}
}

// P16.3: the modes of rounding, by the instruction and by Fcsr; where that has none, it is refused.
func TestRounds(t *testing.T) {
	want := []uint64{one8, one8, one8, one8 + 1, one8 + 1} // of 1 and half a last bit
	for rm := range 5 {
		bits := bitsOf(t, api.Inst{Kind: api.FAdd, Rd: 4, Rs1: 5, Rs2: 6, Rm: rm, Size: 8})
		for frm := range uint64(8) {
			figured(t, bits, fs, frm<<5|2, one8, 0x3ca0000000000000, 0).does(bits, floated(want[rm]), flags(1))
		}
	}
	bits := bitsOf(t, api.Inst{Kind: api.FAdd, Rd: 4, Rs1: 5, Rs2: 6, Rm: 7, Size: 8})
	for frm := range uint64(8) {
		o := figured(t, bits, fs, frm<<5|2, one8, 0x3ca0000000000000, 0)
		if frm < 5 {
			o.does(bits, floated(want[frm]), flags(1))
		} else {
			o.refused(bits)
		}
	}
}

// P16.3: all that rounds asks Fcsr, if it is to; nothing else does.
func TestRoundsEach(t *testing.T) {
	round := append(of(api.FAdd, api.FNmadd), api.FToInt, api.FFromInt, api.FConvert)
	for k := api.FLoad; k < api.Kinds; k++ {
		for _, n := range []int{4, 8} {
			x := inst(k, n)
			if oneOf(k, round) {
				x.Rm = 7
			}
			bits := bitsOf(t, x)
			for frm := range uint64(8) {
				w := bare().laid(bits)
				w.x[5] = data
				w.lay(3, frm<<5)
				o := w.told(t)
				if oneOf(k, round) && frm > 4 {
					o.refused(bits)
				} else if r := o.h.Step(); r.Kind != api.Done {
					t.Errorf("%+v with %d: %+v", x, frm, r)
				}
				if x.Rm == 7 {
					x.Rm = 1
					still := bitsOf(t, x)
					x.Rm = 7
					if r := w.laid(still).told(t).h.Step(); r.Kind != api.Done {
						t.Errorf("%+v with %d: %+v", x, frm, r)
					}
				}
			}
		}
	}
}

// P16.3: with FS 0 all kinds from FLoad on are refused, ahead of all else; the others are done.
func TestWithoutFloats(t *testing.T) {
	for k := 1; k < api.Kinds; k++ {
		for _, n := range []int{4, 8} {
			for _, place := range []uint64{data, data + 1, 0, 0x10000000} {
				bits := bitsOf(t, inst(k, n))
				w := bare().laid(bits)
				w.status, w.x[5] = 0, place
				o := w.told(t)
				if k >= api.FLoad {
					o.refused(bits)
				} else if r := o.h.Step(); r.Kind == api.Trap && r.Cause == api.IllegalInst {
					t.Errorf("%x: %+v", bits, r)
				}
			}
		}
	}
	for _, k := range []int{api.FAdd, api.FToInt} {
		x := inst(k, 8)
		x.Rm = 7
		bits := bitsOf(t, x)
		w := bare().laid(bits)
		w.status = 0
		w.told(t).refused(bits)
	}
}

// P16.3: floats of 2 bytes are refused likewise, with their 2 bytes.
func TestWithoutShortFloats(t *testing.T) {
	for _, bits := range []uint32{0x2000, 0xa000, 0x2002, 0xa002} {
		w := bare().laid(bits)
		w.status, w.x[8], w.x[2] = 0, data, data
		w.told(t).refused(bits)
		w.status = fs
		if r := w.told(t).h.Step(); r.Kind != api.Done || r.Mem == 0 || r.Addr != data || r.Size != 8 || r.Bits != bits {
			t.Errorf("%x: %+v", bits, r)
		}
	}
}

// P16.3: FS is 3 behind what sets a float or raises a flag, and stays behind all else.
func TestTurnsFS(t *testing.T) {
	sets := append(of(api.FAdd, api.FMax), api.FLoad, api.FFromInt, api.FConvert, api.FMoveF)
	for k := api.FLoad; k < api.Kinds; k++ {
		for _, n := range []int{4, 8} {
			for _, was := range []uint64{1 << 13, 2 << 13, 3 << 13} {
				bits := bitsOf(t, inst(k, n))
				w := bare().laid(bits)
				w.status, w.x[5] = was, data
				for f := range 3 {
					w.f[5+f] = []uint64{4: one4, 8: one8}[n]
				}
				o := w.told(t)
				ahead := o.h.State().C.Mstatus
				if r := o.h.Step(); r.Kind != api.Done {
					t.Fatalf("%x: %+v", bits, r)
				}
				want := ahead
				if oneOf(k, sets) {
					want |= fs | sd
				}
				if s := o.h.State().C.Mstatus; s != want {
					t.Errorf("%+v: Mstatus %x, then %x", inst(k, n), ahead, s)
				}
			}
		}
	}
}

// P16.3: the lesser and the greater one, signs, comparisons and classes.
func TestOthersOfFloats(t *testing.T) {
	for _, c := range []struct {
		kind, size int
		a, b       uint64
		want       uint64
		flags      uint64
	}{
		{api.FSgnj, 8, one8, minus8, one8 | minus8, 0}, {api.FSgnjn, 8, one8, minus8, one8, 0}, {api.FSgnjx, 8, one8 | minus8, minus8, one8, 0},
		{api.FSgnj, 4, one4, boxed | minus4, one4 | minus4, 0}, {api.FSgnjn, 4, one4, one4, one4 | minus4, 0}, {api.FSgnjx, 4, one4, boxed | minus4, one4 | minus4, 0},
		{api.FSgnj, 4, one8, boxed | minus4, quiet4 | minus4, 0}, {api.FSgnj, 4, one4, minus8 | minus4, one4, 0}, {api.FSgnj, 8, one4, one8, one4 &^ minus8, 0},
		{api.FMin, 8, one8, two8, one8, 0}, {api.FMax, 8, one8, two8, two8, 0}, {api.FMin, 4, boxed | minus4, boxed, boxed | minus4, 0}, {api.FMax, 4, one4, two4, two4, 0},
		{api.FMin, 4, boxed | 0x7f800001, one4, one4, 16}, {api.FMax, 4, one8, one4, one4, 0}, {api.FMax, 8, 0x7ff0000000000001, one8, one8, 16},
	} {
		bits := bitsOf(t, api.Inst{Kind: c.kind, Rd: 4, Rs1: 5, Rs2: 6, Size: c.size})
		figured(t, bits, 1<<13, 0, c.a, c.b, 0).does(bits, floated(c.want), flags(c.flags))
	}
	for _, c := range []struct {
		kind, size int
		a, b       uint64
		want       uint64
		flags      uint64
	}{
		{api.FEq, 8, one8, one8, 1, 0}, {api.FEq, 8, one8, two8, 0, 0}, {api.FLt, 8, one8, two8, 1, 0}, {api.FLt, 8, two8, one8, 0, 0}, {api.FLe, 8, two8, two8, 1, 0}, {api.FLe, 8, two8, one8, 0, 0},
		{api.FEq, 4, one4, one4, 1, 0}, {api.FLt, 4, one4, two4, 1, 0}, {api.FLe, 4, two4, one4, 0, 0},
		{api.FLt, 4, quiet4, boxed, 0, 16}, {api.FEq, 4, quiet4, boxed, 0, 0}, {api.FLe, 4, one8, one4, 0, 16}, {api.FEq, 8, 0x7ff0000000000001, one8, 0, 16},
	} {
		bits := bitsOf(t, api.Inst{Kind: c.kind, Rd: 4, Rs1: 5, Rs2: 6, Size: c.size})
		figured(t, bits, 1<<13, 1, c.a, c.b, 0).does(bits, api.Record{Reg: api.RegX, Rd: 4, Value: c.want}, flags(c.flags))
	}
	for _, c := range []struct {
		size    int
		a, want uint64
	}{{8, one8, 1 << 6}, {4, one4, 1 << 6}, {4, boxed | minus4, 8}, {4, boxed | 1, 0x20}, {4, boxed | 0x7f800001, 0x100}, {4, one8, 0x200}, {8, 0xfff0000000000000, 1}} {
		bits := bitsOf(t, api.Inst{Kind: api.FClass, Rd: 4, Rs1: 5, Size: c.size})
		figured(t, bits, 1<<13, 0, c.a, 0, 0).sets(bits, 4, c.want)
	}
}

// P16.3: to whole numbers and from them, and to the other size.
func TestConversions(t *testing.T) {
	for _, c := range []struct {
		size, rm       int
		word, unsigned bool
		a, want, flags uint64
	}{
		{8, 0, true, false, 0x4004000000000000, 2, 1}, {8, 4, true, false, 0x4004000000000000, 3, 1}, {8, 3, false, false, 0x4004000000000000, 3, 1},
		{4, 1, true, true, boxed | 0xbf000000, 0, 1}, {4, 1, true, true, boxed | 0xbf800000, 0, 16}, {4, 0, true, true, boxed | 0x4f7fffff, 0xffffffffffffff00, 0}, {4, 0, false, true, boxed | 0x4f7fffff, 0xffffff00, 0},
		{8, 0, false, false, quiet8, 1<<63 - 1, 16}, {4, 0, true, false, one8, 0x7fffffff, 16}, {8, 0, false, true, one8 | minus8, 0, 16}, {8, 0, false, false, one8 | minus8, 1<<64 - 1, 0},
	} {
		bits := bitsOf(t, api.Inst{Kind: api.FToInt, Rd: 4, Rs1: 5, Rm: c.rm, Size: c.size, Word: c.word, Unsigned: c.unsigned})
		figured(t, bits, 1<<13, 0, c.a, 0, 0).does(bits, api.Record{Reg: api.RegX, Rd: 4, Value: c.want}, flags(c.flags))
	}
	for _, c := range []struct {
		size, rm       int
		word, unsigned bool
		a, want, flags uint64
	}{
		{4, 0, false, false, 1<<64 - 1, boxed | 0xbf800000, 0}, {4, 0, false, true, 1<<64 - 1, boxed | 0x5f800000, 1}, {4, 1, false, true, 1<<64 - 1, boxed | 0x5f7fffff, 1},
		{8, 0, true, true, 0xffffffff80000000, 0x41e0000000000000, 0}, {8, 0, true, false, 0x180000000, 0xc1e0000000000000, 0}, {8, 0, false, false, 3, three8, 0}, {8, 0, false, false, 0, 0, 0},
	} {
		bits := bitsOf(t, api.Inst{Kind: api.FFromInt, Rd: 4, Rs1: 5, Rm: c.rm, Size: c.size, Word: c.word, Unsigned: c.unsigned})
		w := bare().laid(bits)
		w.status, w.x[5] = 1<<13, c.a
		w.told(t).does(bits, floated(c.want), flags(c.flags))
	}
	for _, c := range []struct {
		size, rm       int
		a, want, flags uint64
	}{
		{4, 0, one8 + 1, one4, 1}, {4, 3, one8 + 1, one4 + 1, 1}, {4, 0, 0x7ff0000000000001, quiet4, 16}, {4, 0, one4, quiet4, 0}, {8, 0, one4, one8, 0}, {8, 0, one8, quiet8, 0}, {8, 0, boxed | 1, 0x36a0000000000000, 0},
	} {
		bits := bitsOf(t, api.Inst{Kind: api.FConvert, Rd: 4, Rs1: 5, Rm: c.rm, Size: c.size})
		figured(t, bits, 1<<13, 0, c.a, 0, 0).does(bits, floated(c.want), flags(c.flags))
	}
}

// P16.3: bits that are moved, whatever they are.
func TestMoves(t *testing.T) {
	for _, c := range []struct {
		size    int
		a, want uint64
	}{{8, 0x8182838485868788, 0x8182838485868788}, {4, 0x8182838485868788, 0xffffffff85868788}, {4, 0x81828384f, 0x1828384f}, {8, 0x7ff0000000000001, 0x7ff0000000000001}} {
		bits := bitsOf(t, api.Inst{Kind: api.FMoveX, Rd: 4, Rs1: 5, Size: c.size})
		figured(t, bits, 1<<13, 0, c.a, 0, 0).sets(bits, 4, c.want)
	}
	for _, c := range []struct {
		size    int
		a, want uint64
	}{{8, 0x8182838485868788, 0x8182838485868788}, {4, 0x8182838485868788, 0xffffffff85868788}, {4, 0x7f800001, boxed | 0x7f800001}} {
		for _, rd := range []int{0, 4, 31} {
			bits := bitsOf(t, api.Inst{Kind: api.FMoveF, Rd: rd, Rs1: 5, Size: c.size})
			w := bare().laid(bits)
			w.status, w.x[5] = 1<<13, c.a
			w.told(t).does(bits, api.Record{Reg: api.RegF, Rd: rd, Value: c.want}, nil)
		}
	}
}
