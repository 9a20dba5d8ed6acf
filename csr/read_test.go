package csr_test

import (
	"testing"

	"tandem/api"
	"tandem/csr"
)

// P12.1: bits 33 and 35 of Mstatus alone.
func TestReset(t *testing.T) {
	if c := csr.Reset(); c != (api.Csrs{Mstatus: 1<<33 | 1<<35}) {
		t.Errorf("Reset(): %#x", c)
	}
}

// P12.3: all numbers of 12 bits, those around them and far ones.
func TestReadOfAllNumbers(t *testing.T) {
	d := dice(1203)
	for _, c := range []api.Csrs{{}, csr.Reset(), open(), d.handMade(), d.handMade(), d.handMade()} {
		for n := -0x1100; n < 0x2100; n++ {
			lines, time := d.number(), d.number()
			told{t}.read(c, n, lines, time, reads(c, n, lines, time))
		}
		for _, n := range far() {
			told{t}.read(c, n, all, all, 0)
		}
	}
}

// P12.3: with anything in the registers, the lines and the time.
func TestReadOfManyRegisters(t *testing.T) {
	d := dice(1204)
	l := registers()
	for range 300 {
		c := d.handMade()
		for _, n := range l {
			lines, time := d.number(), d.number()
			told{t}.read(c, n, lines, time, reads(c, n, lines, time))
		}
	}
}

// full has in each field a number of its own.
func full() api.Csrs {
	return api.Csrs{
		Mstatus: 0x8000000a007e79aa, Mtvec: 1, Medeleg: 2, Mideleg: 0x222, Mie: 0xaa8, Mip: 0x020,
		Mepc: 4, Mcause: 5, Mtval: 6, Mscratch: 7,
		Mcounteren: 8, Mcountinhibit: 9,
		Mcycle: 10, Minstret: 11,
		Stvec: 12, Sepc: 13, Scause: 14, Stval: 15, Sscratch: 16,
		Scounteren: 17, Satp: 18, Fcsr: 0xb5,
		Pmpcfg:  [8]uint8{1, 2, 3, 4, 5, 6, 7, 0x9f},
		Pmpaddr: [8]uint64{20, 21, 22, 23, 24, 25, 26, 27},
	}
}

// P12.3: each register reads its own field.
func TestReadOfEachField(t *testing.T) {
	for n, want := range map[int]uint64{
		0x001: 0x15, 0x002: 5, 0x003: 0xb5,
		0x100: 0x80000002000c6122, 0x104: 0x220, 0x105: 12, 0x106: 17, 0x10a: 0,
		0x140: 16, 0x141: 13, 0x142: 14, 0x143: 15, 0x144: 0x220, 0x180: 18,
		0x300: 0x8000000a007e79aa, 0x301: 0x800000000014112d, 0x302: 2, 0x303: 0x222, 0x304: 0xaa8, 0x305: 1, 0x306: 8,
		0x30a: 0, 0x320: 9, 0x323: 0, 0x33f: 0, 0x340: 7, 0x341: 4, 0x342: 5, 0x343: 6, 0x344: 0xaa8,
		0x3a0: 0x9f07060504030201, 0x3a2: 0, 0x3b0: 20, 0x3b1: 21, 0x3b2: 22, 0x3b3: 23, 0x3b4: 24, 0x3b5: 25, 0x3b6: 26, 0x3b7: 27,
		0x3b8: 0, 0x3bf: 0, 0xb00: 10, 0xb02: 11, 0xb03: 0, 0xb1f: 0,
		0xc00: 10, 0xc01: 99, 0xc02: 11, 0xc03: 0, 0xc1f: 0, 0xf11: 0, 0xf14: 0, 0xf15: 0,
		0x000: 0, 0x101: 0, 0x200: 0, 0x244: 0, 0x3a1: 0, 0x3c0: 0, 0x7c0: 0, 0xb01: 0, 0xc20: 0, -1: 0, 0x1300: 0,
	} {
		told{t}.read(full(), n, 0xa88, 99, want)
	}
}

// P12.3: of the lines bits 3, 7, 9 and 11 alone count, in mip and, as Mideleg has them, in sip; in nothing else.
func TestReadOfLines(t *testing.T) {
	for i := range 64 {
		line, want := uint64(1)<<i, uint64(0)
		if i == 3 || i == 7 || i == 9 || i == 11 {
			want = line
		}
		for _, mip := range []uint64{0, 2, line} {
			for _, delegated := range []uint64{0, 2, line, all - line, all} {
				c := csr.Reset()
				c.Mip, c.Mideleg = mip, delegated
				told{t}.read(c, 0x344, line, 0, mip|want)
				told{t}.read(c, 0x144, line, 0, (mip|want)&delegated)
				told{t}.read(c, 0x304, line, 0, 0)
				told{t}.read(c, 0x104, line, 0, 0)
			}
		}
	}
	told{t}.read(csr.Reset(), 0x344, all, 0, 0xa88)
}

// P12.3: the time is told by its register alone, and whole.
func TestReadOfTime(t *testing.T) {
	for i := range 64 {
		told{t}.read(csr.Reset(), 0xc01, all, 1<<i, 1<<i)
	}
	for n := range 0x1000 {
		if n != 0xc01 && csr.Read(full(), n, 0, 5) != csr.Read(full(), n, 0, all) {
			t.Errorf("%#x: it tells the time", n)
		}
	}
}

// P12.3: each bit of Mstatus and of Fcsr by what is seen of it.
func TestReadOfParts(t *testing.T) {
	for i := range 64 {
		v := uint64(1) << i
		c := api.Csrs{Mstatus: v, Fcsr: v}
		told{t}.read(c, 0x300, 0, 0, v)
		told{t}.read(c, 0x100, 0, 0, v&0x80000002000c6122)
		told{t}.read(c, 0x001, 0, 0, v&0x1f)
		told{t}.read(c, 0x002, 0, 0, v&0xe0/32)
		told{t}.read(c, 0x003, 0, 0, v)
	}
}
