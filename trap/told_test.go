package trap_test

import (
	"math"
	"testing"

	"tandem/api"
	"tandem/csr"
	"tandem/trap"
)

const all = math.MaxUint64

// A place is what leads on: what the registers hold, the mode and the program counter.
type place struct {
	c    api.Csrs
	mode int
	pc   uint64
}

// told holds answers against those that are asked for.
type told struct {
	t *testing.T
}

func (x told) enter(c api.Csrs, mode int, pc, cause, tval uint64, want place) {
	x.t.Helper()
	d, m, at := trap.Enter(c, mode, pc, cause, tval)
	if o := (place{d, m, at}); o != want {
		x.t.Errorf("Enter(%#x, %d, %#x, %#x, %#x):\n%#x, not\n%#x", c, mode, pc, cause, tval, o, want)
	}
}

func (x told) back(c api.Csrs, kind int, want place) {
	x.t.Helper()
	d, m, at := trap.Return(c, kind)
	if o := (place{d, m, at}); o != want {
		x.t.Errorf("Return(%#x, %d):\n%#x, not\n%#x", c, kind, o, want)
	}
}

// pending asks for a cause without bit 63; below 0: there is none.
func (x told) pending(c api.Csrs, mode int, lines uint64, want int) {
	x.t.Helper()
	cause, ok := trap.Pending(c, mode, lines)
	if ok != (want >= 0) || ok && cause != 1<<63+uint64(want) || !ok && cause != 0 {
		x.t.Errorf("Pending(%#x, %d, %#x): %#x, %v, not %d", c, mode, lines, cause, ok, want)
	}
}

func (x told) waits(c api.Csrs, lines uint64, want bool) {
	x.t.Helper()
	if trap.Waits(c, lines) != want {
		x.t.Errorf("Waits(%#x, %#x): not %v", c, lines, want)
	}
}

// modes are those that there are, and many that are none: these are taken for U.
func modes() []int {
	return []int{api.Machine, api.Supervisor, api.User, 2, 4, 5, 7, 11, -1, -2, -3, math.MinInt, math.MinInt + 3, math.MaxInt, 1<<8 + 3, 1<<32 + 1, 1<<32 + 3}
}

// known is the mode for which a number is taken.
func known(mode int) int {
	if mode == 3 || mode == 1 {
		return mode
	}
	return 0
}

// bit is one of a number's.
func bit(v uint64, n int) bool {
	return v/(1<<n)%2 == 1
}

// set is a number in which a bit is that.
func set(v uint64, n int, one bool) uint64 {
	if bit(v, n) {
		v -= 1 << n
	}
	if one {
		v += 1 << n
	}
	return v
}

// dice tells numbers, always the same ones.
type dice uint64

func (d *dice) next() uint64 {
	*d += 0x9e3779b97f4a7c15
	z := uint64(*d)
	z = (z ^ z>>30) * 0xbf58476d1ce4e5b9
	z = (z ^ z>>27) * 0x94d049bb133111eb
	return z ^ z>>31
}

func (d *dice) below(n uint64) uint64 {
	return d.next() % n
}

// number is any one, one of a few bits, or one of many.
func (d *dice) number() uint64 {
	switch d.below(4) {
	case 0:
		return d.next() & d.next() & d.next()
	case 1:
		return d.next() | d.next() | d.next()
	case 2:
		return d.below(2) * all
	}
	return d.next()
}

// mode is one of modes, most often one that there is.
func (d *dice) mode() int {
	l := modes()
	if d.below(4) > 0 {
		l = l[:3]
	}
	return l[d.below(uint64(len(l)))]
}

// cause is a trap's, an interrupt's, or a number that is neither.
func (d *dice) cause() uint64 {
	v := d.below(64)
	if d.below(4) == 0 {
		v = d.number()
	}
	return v ^ d.below(2)<<63
}

// handMade are registers that hold anything, whether writes and traps leave it or not.
func (d *dice) handMade() api.Csrs {
	var c api.Csrs
	for _, f := range []*uint64{
		&c.Mstatus, &c.Mtvec, &c.Medeleg, &c.Mideleg, &c.Mie, &c.Mip,
		&c.Mepc, &c.Mcause, &c.Mtval, &c.Mscratch,
		&c.Mcounteren, &c.Mcountinhibit,
		&c.Mcycle, &c.Minstret,
		&c.Stvec, &c.Sepc, &c.Scause, &c.Stval, &c.Sscratch,
		&c.Scounteren, &c.Satp, &c.Fcsr,
	} {
		*f = d.number()
	}
	for n := range c.Pmpcfg {
		c.Pmpcfg[n], c.Pmpaddr[n] = uint8(d.number()), d.number()
	}
	return c
}

// written are registers that hold what writes leave.
func (d *dice) written() api.Csrs {
	c := csr.Reset()
	for _, n := range []int{
		0x003, 0x105, 0x106, 0x140, 0x141, 0x142, 0x143, 0x180,
		0x300, 0x302, 0x303, 0x304, 0x305, 0x306, 0x320, 0x340, 0x341, 0x342, 0x343, 0x344,
		0x3a0, 0x3b0, 0x3b7, 0xb00, 0xb02, 0x100,
	} {
		c = csr.Write(c, n, d.number())
	}
	return c
}

// registers are hand-made, or what writes leave.
func (d *dice) registers() api.Csrs {
	if d.below(2) == 0 {
		return d.handMade()
	}
	return d.written()
}
