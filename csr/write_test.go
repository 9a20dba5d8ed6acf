package csr_test

import (
	"testing"

	"tandem/api"
	"tandem/csr"
)

// P12.4: all numbers of 12 bits, those around them and far ones; what no register has changes nothing, whatever there is.
func TestWriteOfAllNumbers(t *testing.T) {
	d := dice(1205)
	for _, c := range []api.Csrs{{}, csr.Reset(), full(), d.handMade(), d.handMade(), d.handMade()} {
		for n := -0x1100; n < 0x2100; n++ {
			v := d.number()
			told{t}.write(c, n, v, leaves(c, n, v))
		}
		for _, n := range far() {
			told{t}.write(c, n, d.number(), c)
		}
	}
}

// P12.4: each bit of each register, alone and left out alone.
func TestWriteOfEachBit(t *testing.T) {
	d := dice(1206)
	for _, c := range []api.Csrs{{}, csr.Reset(), full(), d.handMade(), d.handMade()} {
		for _, n := range registers() {
			for i := range 64 {
				for _, v := range []uint64{1 << i, all - 1<<i} {
					told{t}.write(c, n, v, leaves(c, n, v))
				}
			}
		}
	}
}

// P12.4: with anything in the registers.
func TestWriteOfManyRegisters(t *testing.T) {
	d := dice(1207)
	l := registers()
	for range 300 {
		c := d.handMade()
		for _, n := range l {
			v := d.number()
			told{t}.write(c, n, v, leaves(c, n, v))
		}
	}
}

// P12.4: what all ones leave, by what is read behind them, and noughts behind those.
func TestWriteOfOnesAndNoughts(t *testing.T) {
	for n, want := range map[int][2]uint64{
		0x001: {0x1f}, 0x002: {7}, 0x003: {0xff},
		0x100: {0x80000002000c6122, 0x200000000}, 0x105: {all - 2}, 0x106: {7}, 0x10a: {},
		0x140: {all}, 0x141: {all - 1}, 0x142: {all}, 0x143: {all}, 0x180: {},
		0x300: {0x8000000a007e79aa, 0xa00000000}, 0x301: {0x800000000014112d, 0x800000000014112d},
		0x302: {0xb3fe}, 0x303: {0x222}, 0x304: {0xaaa}, 0x305: {all - 2}, 0x306: {7}, 0x30a: {},
		0x320: {5}, 0x323: {}, 0x330: {}, 0x33f: {}, 0x340: {all}, 0x341: {all - 1}, 0x342: {all}, 0x343: {all}, 0x344: {0x222},
		0x3a0: {0x9f9f9f9f9f9f9f9f, 0x9f9f9f9f9f9f9f9f}, 0x3a2: {}, 0x3b0: {1<<54 - 1}, 0x3b7: {1<<54 - 1}, 0x3b8: {}, 0x3bf: {},
		0xb00: {all}, 0xb02: {all}, 0xb03: {}, 0xb1f: {}, 0xc00: {}, 0xc01: {}, 0xc02: {}, 0xc1f: {}, 0xf11: {}, 0xf14: {}, 0xf15: {},
		0x104: {}, 0x144: {}, 0xb01: {}, 0x7c0: {},
	} {
		c := csr.Write(csr.Reset(), n, all)
		told{t}.read(c, n, 0, 0, want[0])
		told{t}.read(csr.Write(c, n, 0), n, 0, 0, want[1])
	}
}

// P12.4: what stays of Mstatus's MPP, each by each; a hand-made 2 stays too, until another one is written.
func TestWriteOfMPP(t *testing.T) {
	for old := range uint64(4) {
		for mpp := range uint64(4) {
			c, want := csr.Reset(), csr.Reset()
			c.Mstatus |= old << 11
			want.Mstatus |= mpp << 11
			if mpp == 2 {
				want = c
			}
			told{t}.write(c, 0x300, mpp<<11, want)
			told{t}.write(c, 0x100, mpp<<11, c)
		}
	}
}

// P12.4: bit 63 of Mstatus by FS, by whichever register it is written; bits 33 and 35 are 1, all that is no field is 0.
func TestWriteOfFS(t *testing.T) {
	for fs := range uint64(4) {
		want := fs<<13 | 0xa00000000
		if fs == 3 {
			want |= 1 << 63
		}
		for _, old := range []uint64{0, 0xa00000000, 0x8000000a00006000, all &^ 0x7e79aa} {
			for _, other := range []uint64{0, 1 << 63, 1<<33 | 1<<35, all &^ 0x7e79aa} {
				told{t}.write(api.Csrs{Mstatus: old}, 0x300, fs<<13|other, api.Csrs{Mstatus: want})
				told{t}.write(api.Csrs{Mstatus: old}, 0x100, fs<<13|other, api.Csrs{Mstatus: want})
			}
		}
	}
	for n := 1; n <= 3; n++ {
		for _, old := range []uint64{0, 0xa00002000, 0x8000000a00006000, all &^ 0x7e79aa} {
			told{t}.write(api.Csrs{Mstatus: old}, n, 0, api.Csrs{Mstatus: 0x8000000a00006000})
		}
	}
}

// P12.4: of Fcsr what is no part of the register that is written stays as it is.
func TestWriteOfFloats(t *testing.T) {
	with := func(fcsr uint64) api.Csrs {
		return api.Csrs{Mstatus: 0x8000000a00006000, Fcsr: fcsr}
	}
	for v := range uint64(0x200) {
		told{t}.write(with(0xe0), 1, v, with(0xe0|v&0x1f))
		told{t}.write(with(0x1f), 2, v, with(0x1f|v&7<<5))
		told{t}.write(with(0xff), 3, v, with(v&0xff))
		told{t}.write(with(0xf00), 1, v, with(0xf00|v&0x1f))
		told{t}.write(with(0xf00), 2, v, with(0xf00|v&7<<5))
		told{t}.write(with(0xf00), 3, v, with(v&0xff))
	}
}

// P12.4: from S nothing of Mstatus is turned that is M's alone, and back.
func TestWriteOfSstatus(t *testing.T) {
	ones, noughts := csr.Write(csr.Reset(), 0x300, all), csr.Reset()
	told{t}.write(ones, 0x100, 0, api.Csrs{Mstatus: 0xa00721888})
	told{t}.write(noughts, 0x100, all, api.Csrs{Mstatus: 0x8000000a000c6122})
	told{t}.write(ones, 0x300, 0, noughts)
}

// P12.4: of sie, and of bit 1 of sip, what Mideleg has.
func TestWriteOfDelegated(t *testing.T) {
	for bits := range uint64(8) {
		delegated := bits&1<<1 | bits&2<<4 | bits&4<<7
		c := csr.Reset()
		c.Mideleg = delegated
		want := c
		want.Mie = delegated
		told{t}.write(c, 0x104, all, want)
		want = c
		want.Mip = delegated & 2
		told{t}.write(c, 0x144, all, want)
		c.Mie, c.Mip = 0xaaa, 0x222
		want = c
		want.Mie = 0xaaa - delegated
		told{t}.write(c, 0x104, 0, want)
		want = c
		want.Mip = 0x222 - delegated&2
		told{t}.write(c, 0x144, 0, want)
	}
}

// P12.4: mip turns bits 1, 5 and 9 of Mip, others that a hand-made one has stay.
func TestWriteOfMip(t *testing.T) {
	told{t}.write(api.Csrs{Mip: all}, 0x344, 0, api.Csrs{Mip: all - 0x222})
	told{t}.write(api.Csrs{Mip: all}, 0x144, 0, api.Csrs{Mip: all})
	told{t}.write(api.Csrs{Mip: all, Mideleg: all}, 0x144, 0, api.Csrs{Mip: all - 2, Mideleg: all})
	told{t}.write(api.Csrs{}, 0x344, all, api.Csrs{Mip: 0x222})
}

// P12.4: satp by each scheme; of one that there isn't nothing is left.
func TestWriteOfSatp(t *testing.T) {
	for scheme := range uint64(16) {
		for _, rest := range []uint64{0, 1, 1<<60 - 1, 0xabcdef} {
			v := scheme<<60 | rest
			c := api.Csrs{Mstatus: 1, Satp: 8<<60 | 5}
			want := c
			if scheme == 0 || scheme == 8 {
				want.Satp = v
			}
			told{t}.write(c, 0x180, v, want)
		}
	}
}

// P12.4: settings and addresses as chapter 11 has them: locks, W without R, and an entry behind that begins there.
func TestWriteOfEntries(t *testing.T) {
	c := csr.Reset()
	want := c
	want.Pmpcfg = [8]uint8{0x9f, 0, 1, 0x80, 0x1f, 0, 7, 0x88}
	c = csr.Write(c, 0x3a0, 0xe8_67_02_1f_e0_61_06_ff)
	told{t}.write(csr.Reset(), 0x3a0, 0xe8_67_02_1f_e0_61_06_ff, want)
	want.Pmpcfg = [8]uint8{0x9f, 1, 1, 0x80, 1, 1, 1, 0x88}
	told{t}.write(c, 0x3a0, 0x0101010101010101, want)
	for n := range 16 {
		want = c
		if n < 8 && n != 0 && n != 3 && n != 6 && n != 7 {
			want.Pmpaddr[n] = 1<<54 - 1
		}
		told{t}.write(c, 0x3b0+n, all, want)
	}
}

// P12.4: registers that may only be read, that hold nothing, or that there aren't leave all as it is, Mstatus that no write leaves too.
func TestWriteOfNothing(t *testing.T) {
	d := dice(1208)
	for range 50 {
		c := d.handMade()
		for _, n := range []int{0xc00, 0xc01, 0xc02, 0xc1f, 0xf11, 0xf14, 0xf15, 0x10a, 0x301, 0x30a, 0x323, 0x33f, 0x3a2, 0x3b8, 0x3bf, 0xb03, 0xb1f, 0x000, 0x101, 0x200, 0x300 + 1<<12, 0x700, 0xb01, 0xf00, -1} {
			told{t}.write(c, n, d.number(), c)
		}
	}
}
