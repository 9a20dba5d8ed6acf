package hart_test

import (
	"testing"

	"tandem/api"
	"tandem/decode"
)

// dice tells numbers, always the same ones.
type dice uint64

func (o *dice) next() uint64 {
	*o += 0x9e3779b97f4a7c15
	z := uint64(*o)
	z = (z ^ z>>30) * 0xbf58476d1ce4e5b9
	z = (z ^ z>>27) * 0x94d049bb133111eb
	return z ^ z>>31
}

func (o *dice) below(n int) int {
	return int(o.next() % uint64(n))
}

// one tells whether something that is so once in many times is so now.
func (o *dice) one(in int) bool {
	return o.below(in) == 0
}

func pick[T any](o *dice, l ...T) T {
	return l[o.below(len(l))]
}

// place is one that can be accessed, most often.
func (o *dice) place(paged bool) uint64 {
	near := data
	if paged && !o.one(8) {
		near = pick(o, uint64(0x2000), 0x2000, 0x3000, 0x4000, 0x5000, 0x6000, 0x8000, 0x12000, 0xd000)
	}
	switch o.below(12) {
	case 0:
		return pick(o, uint64(0x2000000), 0x2004000, 0x2004004, 0x200bff8, 0xc000004, 0xc001000, 0xc002000, 0xc002080, 0xc200000, 0xc200004, 0xc201004, 0x10000000, 0x10000001, 0x10000002, 0x10000005, 0x7000, 0xa000)
	case 1:
		return near + o.next()%0x1000
	case 2:
		return pick(o, base+api.RamSize-8, base+api.RamSize, 0, 1<<64-8, base, code+0x800, 0xb000, 0xc000, 0x300000, 0x2f0000, 0x210000)
	}
	return near + o.next()%0x200*8
}

// float is one of either size, often next to others, seldom boxed wrongly.
func (o *dice) float() uint64 {
	double := pick(o, uint64(0), one8, two8, three8, 0x4059000000000000, 0x7ff0000000000000, quiet8, 0x7ff0000000000001, 1, 0x0010000000000000, 0x7fefffffffffffff, 0x43dfffffffffffff, 0x41dfffffffc00000, o.next(), 0x3ff0000000000000+o.next()%5)
	single := pick(o, uint64(0), 0x3f800000, 0x40000000, 0x40400000, 0x7f800000, 0x7fc00000, 0x7f800001, 1, 0x00800000, 0x7f7fffff, 0x4effffff, 0x5f000000, o.next()>>32, 0x3f800000+o.next()%5)
	if o.one(3) {
		double |= 1 << 63
		single |= 1 << 31
	}
	switch o.below(9) {
	case 0, 1, 2, 3:
		return double
	case 4:
		return single
	}
	return boxed | single
}

// number is one at an edge, or any.
func (o *dice) number() uint64 {
	return pick(o, 0, 1, 2, 3, 5, 0x7f, 0x80, 0xff, 0x7fffffff, 0x80000000, 0xffffffff, 1<<63-1, 1<<63, 1<<64-1, 1<<64-2, o.next(), o.next()>>32, o.next()>>o.below(64))
}

// register is the number of one, seldom of none.
func (o *dice) register() int {
	return pick(o, 1, 2, 3, 0x100, 0x104, 0x105, 0x106, 0x10a, 0x140, 0x141, 0x142, 0x143, 0x144, 0x144, 0x180, 0x300, 0x300, 0x301, 0x302, 0x303, 0x304, 0x305, 0x306, 0x30a, 0x320, 0x320, 0x330, 0x340, 0x341, 0x342, 0x343, 0x344, 0x344, 0x3a0, 0x3a2, 0x3b0, 0x3b7, 0x3b8, 0xb00, 0xb02, 0xb02, 0xb03, 0xc00, 0xc01, 0xc02, 0xc03, 0xf11, 0xf14, 0x7c0, 0, o.below(4096))
}

// inst is an instruction of any kind.
func (o *dice) inst(t *testing.T) uint32 {
	k := 1 + o.below(api.Kinds-1)
	x := inst(k, pick(o, 4, 8))
	x.Rd, x.Rs1, x.Rs2, x.Rs3 = o.used(x.Rd), o.used(x.Rs1), o.used(x.Rs2), o.used(x.Rs3)
	imm := int64(o.below(17)-8) * int64(pick(o, 8, 8, 8, 4, 1))
	switch {
	case oneOf(k, []int{api.Load, api.Store, api.FLoad, api.FStore}):
		if k == api.Load || k == api.Store {
			x.Size = pick(o, 1, 2, 4, 8)
		}
		x.Unsigned = k == api.Load && x.Size < 8 && o.one(2)
		x.Rs1, x.Imm = 8+o.below(8), imm
	case oneOf(k, of(api.Lr, api.AmoMaxu)):
		x.Rs1 = 8 + o.below(8)
	case k == api.Lui || k == api.Auipc:
		x.Imm = int64(int32(o.next())) >> 12 << 12
	case k == api.Jal || oneOf(k, of(api.Beq, api.Bgeu)):
		x.Imm = int64(2 + 2*o.below(8))
	case k == api.Jalr:
		x.Rs1, x.Imm = 16, imm
	case oneOf(k, of(api.Add, api.Remu)):
		o.sum(&x)
	case oneOf(k, of(api.Csrrw, api.Csrrc)):
		x.Csr = o.register()
		if o.one(2) {
			x.UseImm, x.Imm, x.Rs1 = true, int64(x.Rs1), 0
		}
	case oneOf(k, of(api.FAdd, api.FNmadd), []int{api.FConvert, api.FToInt, api.FFromInt}):
		x.Rm = pick(o, 0, 1, 2, 3, 4, 7, 7, 7)
		if k == api.FToInt || k == api.FFromInt {
			x.Word, x.Unsigned = o.one(2), o.one(2)
		}
	}
	bits, ok := decode.Encode(x)
	if !ok {
		return o.inst(t)
	}
	return bits
}

// used is a register in the place of one that is used.
func (o *dice) used(n int) int {
	if n == 0 {
		return 0
	}
	return o.below(32)
}

// sum makes a sum, or the like, one with an immediate, or of words, where there may be such a one.
func (o *dice) sum(x *api.Inst) {
	x.Word = o.one(2)
	if o.one(2) {
		x.UseImm, x.Rs2, x.Imm = true, 0, int64(o.below(4096)-2048)
		if x.Kind == api.Sll || x.Kind == api.Srl || x.Kind == api.Sra {
			x.Imm = int64(o.below(32))
		}
	}
}

// world is any one, in which instructions of all kinds come one by one.
func (o *dice) world(t *testing.T) *world {
	table := o.one(2)
	w := bare()
	if table {
		w = paged()
		w.put(tables+0x2000+8*0x0d, to(tables+0x2000, pageOfData))
		w.mode = pick(o, inS, inS, inU, inM)
		w.at = map[int]uint64{inU: 0x11000, inS: 0x1000, inM: code}[w.mode]
	} else {
		w.mode = pick(o, inM, inM, inS, inU)
	}
	w.status = o.next() & (sie | mie | spie | spp | fs | sum | mxr | tvm | tw | tsr)
	if o.one(3) {
		w.status &^= tvm | tw | tsr
	}
	if !o.one(4) {
		w.status |= fs
	}
	if w.mode == inM {
		w.status |= pick(o, uint64(0), 0, mprv) | pick(o, uint64(0), 1<<11, 3<<11)
	}
	for n := 1; n < 32; n++ {
		w.x[n] = o.number()
		if n >= 8 && n < 16 {
			w.x[n] = o.place(table)
		}
	}
	w.x[16] = w.at + uint64(o.below(300))
	for n := range w.f {
		w.f[n] = o.float()
	}
	o.lays(w)
	o.fill(t, w)
	for cycle := int64(o.below(9)); o.one(2); cycle += int64(o.below(9)) {
		w.events = append(w.events, pick(o, api.Event{Cycle: cycle, Kind: api.EventByte, V: o.next() % 256}, api.Event{Cycle: cycle, Kind: api.EventLine, N: 1 + o.below(8), V: o.next() % 2}))
	}
	return w
}

// lays lays registers; traps lead to where there are instructions, if nothing is translated there.
func (o *dice) lays(w *world) {
	w.lay(3, o.next()%256)
	w.lay(0x302, pick(o, 0, 0, 1<<64-1, o.next()))
	w.lay(0x303, pick(o, 0, 0, 0x222, o.next()))
	w.lay(0x304, pick(o, 0, 0xaaa, o.next()))
	w.lay(0x344, pick(o, 0, 0, o.next()))
	w.lay(0x305, code+uint64(4*o.below(60)+o.below(2)))
	w.lay(0x105, w.at+uint64(4*o.below(60)+o.below(2)))
	w.lay(0x306, o.next())
	w.lay(0x106, o.next())
	w.lay(0x320, pick(o, 0, 0, o.next()))
	w.lay(0xb02, o.number())
	w.lay(0xb00, o.number())
	w.lay(0x141, w.at+uint64(2*o.below(100)))
	if w.mode == inM {
		w.lay(0x341, w.at+uint64(2*o.below(100)))
	}
	if o.one(4) {
		w.lay(0x3b0, pick(o, data>>2|0x1f, data>>2|0x1ff, code>>2|0x1ff, o.next()))
		w.lay(0x3a0, 0x1f<<56|0x18|o.next()%8)
	}
}

// fill lays instructions, of 4 bytes and of 2, and seldom what is none.
func (o *dice) fill(t *testing.T, w *world) {
	var l []uint32
	for range 120 {
		switch o.below(10) {
		case 0, 1:
			l = append(l, uint32(o.next()%65536&^3|pick(o, uint64(0), 1, 1, 2)))
		case 2:
			if o.one(6) {
				l = append(l, uint32(o.next())|3)
				continue
			}
			l = append(l, uint32(pick(o, 0x4105, 0x9002, 0x8d91, 0x9e29, 0xe10c, 0x610c, 0x210c, 0xa10c, 0x0001)))
		default:
			l = append(l, o.inst(t))
		}
	}
	w.laid(l...)
}
