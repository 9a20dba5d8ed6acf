package pmp_test

import (
	"math"
	"testing"

	"tandem/api"
	"tandem/pmp"
)

type (
	settings  = [api.PmpEntries]uint8
	addresses = [api.PmpEntries]uint64
)

// entries are all of them.
type entries struct {
	cfg  settings
	addr addresses
}

// An access is what Check is asked of.
type access struct {
	mode, kind int
	at         uint64
	size       int
}

// told holds answers against those that are asked for.
type told struct {
	t *testing.T
}

// spans holds that an entry has a range.
func (x told) spans(e entries, n int, first, last uint64) {
	x.t.Helper()
	if f, l, ok := pmp.Range(e.cfg, e.addr, n); f != first || l != last || !ok {
		x.t.Errorf("Range(%#x, %#x, %d): %#x, %#x, %v, not %#x, %#x", e.cfg, e.addr, n, f, l, ok, first, last)
	}
}

// spanless holds that there is no range.
func (x told) spanless(e entries, n int) {
	x.t.Helper()
	if f, l, ok := pmp.Range(e.cfg, e.addr, n); f != 0 || l != 0 || ok {
		x.t.Errorf("Range(%#x, %#x, %d): %#x, %#x, %v", e.cfg, e.addr, n, f, l, ok)
	}
}

func (x told) check(e entries, a access, want bool) {
	x.t.Helper()
	if pmp.Check(e.cfg, e.addr, a.mode, a.kind, a.at, a.size) != want {
		x.t.Errorf("Check(%#x, %#x, %d, %d, %#x, %d): not %v", e.cfg, e.addr, a.mode, a.kind, a.at, a.size, want)
	}
}

func (x told) config(cfg settings, v uint64, want settings) {
	x.t.Helper()
	if c := pmp.Config(cfg, v); c != want {
		x.t.Errorf("Config(%#x, %#x): %#x, not %#x", cfg, v, c, want)
	}
}

func (x told) address(e entries, n int, v uint64, want addresses) {
	x.t.Helper()
	if a := pmp.Address(e.cfg, e.addr, n, v); a != want {
		x.t.Errorf("Address(%#x, %#x, %d, %#x): %#x, not %#x", e.cfg, e.addr, n, v, a, want)
	}
}

// sizes are those of accesses, and many that none has.
func sizes() []int {
	return []int{1, 2, 4, 8, 0, -1, 3, 5, 6, 7, 9, 16, 32, -2, -4, -8, math.MinInt, math.MinInt + 1, math.MinInt + 8, math.MaxInt, 1<<8 + 1, 1<<16 + 4, 1<<32 + 8}
}

// kinds are those of accesses, and many that are none.
func kinds() []int {
	return []int{api.Fetch, api.Read, api.Write, api.Atomic, 4, 5, 7, 8, -1, -2, math.MinInt, math.MaxInt, 1 << 8, 1<<8 + 1, 1<<32 + 1, 1<<32 + 2}
}

// modes are those that there are, and many that are none: these are taken for U.
func modes() []int {
	return []int{api.Machine, api.Supervisor, api.User, 2, 4, 7, 11, -1, -3, math.MinInt, math.MinInt + 3, math.MaxInt, 1<<8 + 3, 1<<32 + 3}
}

// nowhere are numbers of which there is no entry.
func nowhere() []int {
	return []int{-1, 8, 9, 15, 16, 63, 64, -2, -7, -8, -9, 256, 257, 1 << 16, 1 << 32, 1<<32 + 1, math.MinInt, math.MinInt + 1, math.MaxInt, math.MaxInt - 1}
}

// dice tells numbers, always the same ones.
type dice uint64

func (d *dice) next() uint64 {
	*d += 0x9e3779b97f4a7c15
	z := uint64(*d)
	z = (z ^ z>>30) * 0xbf58476d1ce4e5b9
	z = (z ^ z>>27) * 0x94d049bb133111eb
	return z ^ z>>31
}

func (d *dice) below(n uint64) uint64 {
	return d.next() % n
}

// setting is one of any kind, with bits that aren't looked at; seldom locked, so that not all are soon.
func (d *dice) setting() uint8 {
	s := uint8(d.next())
	if d.below(3) > 0 {
		s &^= 0x80
	}
	return s
}

// address is one of a few near each other, or a far one; its highest bits are any.
func (d *dice) address() uint64 {
	high := d.below(4) << 54 * d.below(2)
	switch d.below(8) {
	case 0:
		return high | d.next()>>10>>d.below(54)
	case 1:
		return high | 1<<54 - 1 - d.below(6)
	case 2:
		return high | (1<<d.below(6) - 1)
	}
	return high | d.below(24)
}

// entries are some of any kind.
func (d *dice) entries() entries {
	var e entries
	for n := range e.cfg {
		e.cfg[n], e.addr[n] = d.setting(), d.address()
	}
	return e
}

// near is a byte near an end of what an entry's address leads to.
func (d *dice) near(e entries) uint64 {
	a := e.addr[d.below(api.PmpEntries)] & (1<<54 - 1)
	switch d.below(4) {
	case 0:
		return 4*a + 8<<d.below(8) + d.below(20) - 10
	case 1:
		return d.below(100)
	}
	return 4*a + d.below(20) - 10
}

// access is one of those that there are, near what some entries have.
func (d *dice) access(e entries) access {
	return access{modes()[d.below(4)], int(d.below(4)), d.near(e), 1 << d.below(4)}
}
