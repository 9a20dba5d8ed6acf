package csr_test

import (
	"testing"

	"tandem/api"
	"tandem/csr"
)

// open lets everybody do all that the numbers of registers let be.
func open() api.Csrs {
	return behind(csr.Reset(), api.Lay{Csr: 0x300, Value: 1 << 13}, api.Lay{Csr: 0x306, Value: 7}, api.Lay{Csr: 0x106, Value: 7})
}

// mayAsTold holds May of a number, in all modes, against the second reading.
func (x told) mayAsTold(c api.Csrs, n int) {
	x.t.Helper()
	r, there := find(n)
	for _, mode := range modes() {
		x.may(c, mode, n, false, there && r.lets(c, mode, n, false))
		x.may(c, mode, n, true, there && r.lets(c, mode, n, true))
	}
}

// P12.2: all numbers of 12 bits, those around them and far ones, in all modes.
func TestMayOfAllNumbers(t *testing.T) {
	d := dice(1201)
	for _, c := range []api.Csrs{{}, csr.Reset(), open(), d.handMade(), d.handMade()} {
		for n := -0x1100; n < 0x2100; n++ {
			told{t}.mayAsTold(c, n)
		}
		for _, n := range far() {
			told{t}.mayAsTold(c, n)
		}
	}
}

// P12.2: with anything in the registers.
func TestMayOfManyRegisters(t *testing.T) {
	d := dice(1202)
	l := registers()
	for range 100 {
		c := d.handMade()
		for _, n := range l {
			told{t}.mayAsTold(c, n)
		}
	}
}

// P12.2: how many registers each mode may read and write, where nothing beside forbids it.
func TestMayOfHowMany(t *testing.T) {
	c := open()
	c.Mcounteren, c.Scounteren = all, all
	for _, x := range []struct {
		mode, read, written int
	}{{api.User, 3 + 32, 3}, {2, 3 + 32, 3}, {api.Supervisor, 14 + 32, 14}, {api.Machine, 106 + 32 + 5, 106}} {
		read, written := 0, 0
		for n := -0x1000; n < 0x3000; n++ {
			if csr.May(c, x.mode, n, false) {
				read++
			}
			if csr.May(c, x.mode, n, true) {
				written++
			}
		}
		if read != x.read || written != x.written {
			t.Errorf("mode %d: %d read and %d written, not %d and %d", x.mode, read, written, x.read, x.written)
		}
	}
}

// P12.2: numbers beside those of registers, and those that other harts have, are none.
func TestMayOfNoRegister(t *testing.T) {
	for _, n := range []int{
		0x000, 0x004, 0x005, 0x0ff, 0x101, 0x102, 0x103, 0x107, 0x109, 0x10b, 0x13f, 0x145, 0x14d, 0x17f, 0x181, 0x1a0,
		0x200, 0x204, 0x240, 0x280, 0x2ff, 0x307, 0x309, 0x30b, 0x310, 0x31a, 0x31f, 0x321, 0x322, 0x345, 0x34a, 0x34b,
		0x39f, 0x3a1, 0x3a3, 0x3a4, 0x3af, 0x3c0, 0x3ef, 0x5a8, 0x600, 0x680, 0x747, 0x757, 0x7a0, 0x7b0, 0x7c0,
		0xaff, 0xb01, 0xb20, 0xb80, 0xb82, 0xbff, 0xc20, 0xc80, 0xc82, 0xcff, 0xd00, 0xe00, 0xf10, 0xf16, 0xf00, 0xfff,
	} {
		for _, mode := range modes() {
			told{t}.may(open(), mode, n, false, false)
			told{t}.may(open(), mode, n, true, false)
		}
	}
}

// P12.2: a mode that is another number is taken for U.
func TestMayOfOtherModes(t *testing.T) {
	for _, mode := range modes() {
		told{t}.may(open(), mode, 0x001, true, true)
		told{t}.may(open(), mode, 0x100, false, mode == 1 || mode == 3)
		told{t}.may(open(), mode, 0x300, false, mode == 3)
		told{t}.may(csr.Write(open(), 0x106, 0), mode, 0xc02, false, mode == 1 || mode == 3)
	}
}

// P12.2: what may only be read, and what may be written without leaving anything.
func TestMayWrite(t *testing.T) {
	for _, n := range []int{0xc00, 0xc01, 0xc02, 0xc03, 0xc1f, 0xf11, 0xf12, 0xf13, 0xf14, 0xf15} {
		told{t}.may(open(), api.Machine, n, false, true)
		told{t}.may(open(), api.Machine, n, true, false)
	}
	for _, n := range []int{0x10a, 0x301, 0x30a, 0x323, 0x33f, 0x3a2, 0x3b8, 0x3bf, 0xb03, 0xb1f} {
		told{t}.may(open(), api.Machine, n, false, true)
		told{t}.may(open(), api.Machine, n, true, true)
	}
}

// P12.2: the floats' registers by FS, in all modes, M too.
func TestMayOfFloats(t *testing.T) {
	for fs := range uint64(4) {
		for others := range uint64(2) {
			c := csr.Reset()
			c.Mstatus = others*(all-3<<13) + fs<<13
			for _, mode := range modes() {
				for n := 1; n <= 3; n++ {
					told{t}.may(c, mode, n, false, fs != 0)
					told{t}.may(c, mode, n, true, fs != 0)
				}
			}
		}
	}
}

// P12.2: satp by TVM, which holds in S alone.
func TestMayOfSatp(t *testing.T) {
	for _, status := range []uint64{0, all - 1<<20, 1 << 20, all} {
		c := csr.Reset()
		c.Mstatus = status
		for _, write := range []bool{false, true} {
			told{t}.may(c, api.Machine, 0x180, write, true)
			told{t}.may(c, api.Supervisor, 0x180, write, status == 0 || status == all-1<<20)
			told{t}.may(c, api.User, 0x180, write, false)
			told{t}.may(c, api.Supervisor, 0x140, write, true)
		}
	}
}

// P12.2: each counter by its own bit of Mcounteren and of Scounteren, those that no write leaves too.
func TestMayOfEachCounter(t *testing.T) {
	for n := range 32 {
		for _, m := range []uint64{0, 1 << n, all - 1<<n, all, 1 << (n + 32)} {
			for _, s := range []uint64{0, 1 << n, all - 1<<n, all, 1 << (n + 32)} {
				c := csr.Reset()
				c.Mcounteren, c.Scounteren = m, s
				inM, inS := m == 1<<n || m == all, s == 1<<n || s == all
				told{t}.may(c, api.Machine, 0xc00+n, false, true)
				told{t}.may(c, api.Supervisor, 0xc00+n, false, inM)
				told{t}.may(c, api.User, 0xc00+n, false, inM && inS)
				told{t}.may(c, 2, 0xc00+n, false, inM && inS)
				told{t}.may(c, api.Supervisor, 0xc00+n, true, false)
			}
		}
	}
}
