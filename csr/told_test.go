package csr_test

import (
	"math"
	"testing"

	"tandem/api"
	"tandem/csr"
)

const all = math.MaxUint64

// told holds answers against those that are asked for.
type told struct {
	t *testing.T
}

func (x told) read(c api.Csrs, n int, lines, time, want uint64) {
	x.t.Helper()
	if v := csr.Read(c, n, lines, time); v != want {
		x.t.Errorf("Read(%#x, %#x, %#x, %#x): %#x, not %#x", c, n, lines, time, v, want)
	}
}

func (x told) may(c api.Csrs, mode, n int, write, want bool) {
	x.t.Helper()
	if csr.May(c, mode, n, write) != want {
		x.t.Errorf("May(%#x, %d, %#x, %v): not %v", c, mode, n, write, want)
	}
}

func (x told) write(c api.Csrs, n int, v uint64, want api.Csrs) {
	x.t.Helper()
	if o := csr.Write(c, n, v); o != want {
		x.t.Errorf("Write(%#x, %#x, %#x):\n%#x, not\n%#x", c, n, v, o, want)
	}
}

// behind is what some writes leave.
func behind(c api.Csrs, l ...api.Lay) api.Csrs {
	for _, w := range l {
		c = csr.Write(c, w.Csr, w.Value)
	}
	return c
}

// modes are those that there are, and many that are none: these are taken for U.
func modes() []int {
	return []int{api.Machine, api.Supervisor, api.User, 2, 4, 5, 7, 11, -1, -2, -3, math.MinInt, math.MinInt + 3, math.MaxInt, 1<<8 + 3, 1<<32 + 1, 1<<32 + 3}
}

// far are numbers that no register has, though some of their bits are those of one.
func far() []int {
	l := []int{math.MinInt, math.MaxInt, math.MinInt + 0x300, -0xd00, -0x100}
	for _, n := range []int{1, 0x100, 0x180, 0x300, 0x344, 0x3b0, 0xb00, 0xc00, 0xf14} {
		l = append(l, n+1<<12, n+1<<13, n+1<<16, n+1<<32, n|math.MinInt, -n, ^n, n-1<<12)
	}
	return l
}

// registers are the numbers that registers have.
func registers() []int {
	var l []int
	for n := range 1 << 12 {
		if _, there := find(n); there {
			l = append(l, n)
		}
	}
	return l
}

// dice tells numbers, always the same ones.
type dice uint64

func (d *dice) next() uint64 {
	*d += 0x9e3779b97f4a7c15
	z := uint64(*d)
	z = (z ^ z>>30) * 0xbf58476d1ce4e5b9
	z = (z ^ z>>27) * 0x94d049bb133111eb
	return z ^ z>>31
}

func (d *dice) below(n uint64) uint64 {
	return d.next() % n
}

// number is any one, one of a few bits, or one of many.
func (d *dice) number() uint64 {
	switch d.below(4) {
	case 0:
		return d.next() & d.next() & d.next()
	case 1:
		return d.next() | d.next() | d.next()
	case 2:
		return d.below(2) * all
	}
	return d.next()
}

// handMade are registers that hold anything, whether writes leave it or not.
func (d *dice) handMade() api.Csrs {
	var c api.Csrs
	for _, f := range fields(&c) {
		*f = d.number()
	}
	for n := range c.Pmpcfg {
		c.Pmpcfg[n], c.Pmpaddr[n] = uint8(d.number()), d.number()
	}
	return c
}

// written are registers that hold what some writes have left.
func (d *dice) written(writes int) api.Csrs {
	c, l := csr.Reset(), registers()
	for range writes {
		c = csr.Write(c, l[d.below(uint64(len(l)))], d.number())
	}
	return c
}

// fields are those of one number each.
func fields(c *api.Csrs) []*uint64 {
	return []*uint64{
		&c.Mstatus, &c.Mtvec, &c.Medeleg, &c.Mideleg, &c.Mie, &c.Mip,
		&c.Mepc, &c.Mcause, &c.Mtval, &c.Mscratch,
		&c.Mcounteren, &c.Mcountinhibit,
		&c.Mcycle, &c.Minstret,
		&c.Stvec, &c.Sepc, &c.Scause, &c.Stval, &c.Sscratch,
		&c.Scounteren, &c.Satp, &c.Fcsr,
	}
}
