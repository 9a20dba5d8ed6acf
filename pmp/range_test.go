package pmp_test

import (
	"math"
	"testing"

	"tandem/pmp"
)

// P11.1: an entry of the way off has no range, whatever else it has and whatever stands beside it.
func TestRangeOfNoWay(t *testing.T) {
	d := dice(1101)
	for n := range 8 {
		for s := range 256 {
			e := d.entries()
			e.cfg[n] = uint8(s) &^ 0x18
			told{t}.spanless(e, n)
		}
	}
}

// P11.1: there is no entry of such a number.
func TestRangeOfNoEntry(t *testing.T) {
	for way := range uint8(4) {
		var e entries
		for n := range e.cfg {
			e.cfg[n], e.addr[n] = way<<3|7, uint64(n+1)*4
		}
		for _, n := range nowhere() {
			told{t}.spanless(e, n)
		}
	}
}

// P11.1: up to its own address, from that of the entry ahead on, of whatever way that one is; the first one from 0 on.
func TestRangeUpTo(t *testing.T) {
	places := []uint64{0, 1, 2, 3, 4, 5, 0x1000, 0x20000000, 1<<32 - 1, 1 << 32, 1<<53 - 1, 1 << 53, 1<<54 - 2, 1<<54 - 1}
	for n := range 8 {
		for s := range 256 {
			d := dice(n*256 + s)
			ahead, own := places[d.below(14)], places[d.below(14)]
			e := d.entries()
			e.addr[n] = own
			if n > 0 {
				e.cfg[n-1], e.addr[n-1] = uint8(s), ahead
			} else {
				ahead = 0
			}
			e.cfg[n] = e.cfg[n]&^0x18 | 0x08
			if ahead < own {
				told{t}.spans(e, n, 4*ahead, 4*own-1)
			} else {
				told{t}.spanless(e, n)
			}
		}
	}
}

// P11.1: all addresses beside each other, two by two.
func TestRangeUpToItsEnds(t *testing.T) {
	for n := 1; n < 8; n++ {
		for ahead := range uint64(8) {
			for own := range uint64(8) {
				var e entries
				e.cfg[n], e.addr[n-1], e.addr[n] = 0x08, ahead, own
				if ahead < own {
					told{t}.spans(e, n, 4*ahead, 4*own-1)
				} else {
					told{t}.spanless(e, n)
				}
			}
		}
	}
	told{t}.spanless(entries{settings{0x08}, addresses{0}}, 0)
	told{t}.spans(entries{settings{0x08}, addresses{1}}, 0, 0, 3)
	told{t}.spans(entries{settings{0x08}, addresses{1<<54 - 1}}, 0, 0, 1<<56-5)
	told{t}.spans(entries{settings{0, 0x08}, addresses{1<<54 - 2, 1<<54 - 1}}, 1, 1<<56-8, 1<<56-5)
}

// P11.1: the entry behind the last one doesn't come round: the first entry begins at 0, whatever the last one has.
func TestRangeOfTheFirstUpTo(t *testing.T) {
	for bit := range 54 {
		e := entries{cfg: settings{0x08}}
		e.addr[0], e.addr[7], e.addr[1] = 1<<bit, 1<<53, 1<<52
		told{t}.spans(e, 0, 0, 4<<bit-1)
	}
}

// P11.1: four bytes.
func TestRangeOfFourBytes(t *testing.T) {
	for n := range 8 {
		for bit := range 54 {
			for _, a := range []uint64{1 << bit, 1<<bit - 1, 1<<54 - 1 - 1<<bit, 1<<54 - 1<<bit} {
				e := entries{}
				e.cfg[n], e.addr[n] = 0x10, a
				told{t}.spans(e, n, 4*a, 4*a+3)
			}
		}
	}
	told{t}.spans(entries{cfg: settings{0x10}}, 0, 0, 3)
}

// P11.1: powers of two, by how many ones end the address, with any bits ahead of the nought that stands there.
func TestRangeOfPowersOfTwo(t *testing.T) {
	d := dice(1102)
	for n := range 8 {
		for ones := range 55 {
			for range 6 {
				above := d.next() >> 10 >> ones >> 1 << ones << 1
				e := d.entries()
				e.cfg[n], e.addr[n] = e.cfg[n]|0x18, above|(1<<ones-1)
				told{t}.spans(e, n, 4*above, 4*above+1<<(ones+3)-1)
			}
		}
	}
}

// P11.1: the bits of addresses from 54 on, and those of settings that aren't its way, aren't looked at.
func TestRangeLooksAtNoOtherBits(t *testing.T) {
	d := dice(1103)
	for range 20000 {
		e := d.entries()
		o := e
		for n := range o.cfg {
			o.cfg[n] ^= uint8(d.next()) &^ 0x18
			o.addr[n] ^= d.next() << 54
		}
		for n := range 8 {
			f, l, ok := pmp.Range(e.cfg, e.addr, n)
			if g, m, is := pmp.Range(o.cfg, o.addr, n); f != g || l != m || ok != is {
				t.Fatalf("Range(%#x, %#x, %d): %#x, %#x, %v, not %#x, %#x, %v", o.cfg, o.addr, n, g, m, is, f, l, ok)
			}
		}
	}
	high := uint64(0x3ff) << 54
	told{t}.spans(entries{settings{0, 0x08}, addresses{high | 4, 8}}, 1, 16, 31)
	told{t}.spans(entries{settings{0, 0x08}, addresses{4, high | 8}}, 1, 16, 31)
	told{t}.spans(entries{settings{0xf0}, addresses{high | 3}}, 0, 12, 15)
	told{t}.spans(entries{settings{0x78}, addresses{high | 3}}, 0, 0, 31)
	told{t}.spans(entries{settings{0x18}, addresses{math.MaxUint64}}, 0, 0, 1<<57-1)
	told{t}.spans(entries{settings{0x18}, addresses{1<<64 - 1 - 1<<54}}, 0, 0, 1<<57-1)
}

// P11.1: an entry's range hangs on its own setting, its own address and the address ahead alone.
func TestRangeLooksAtNoOtherEntries(t *testing.T) {
	d := dice(1104)
	for range 5000 {
		e, o := d.entries(), d.entries()
		for n := range 8 {
			mixed := o
			mixed.cfg[n], mixed.addr[n] = e.cfg[n], e.addr[n]
			if n > 0 {
				mixed.addr[n-1] = e.addr[n-1]
			}
			if f, l, ok := pmp.Range(e.cfg, e.addr, n); ok {
				told{t}.spans(mixed, n, f, l)
			} else {
				told{t}.spanless(mixed, n)
			}
		}
	}
}

// P11.1: of entries of any kind the first and the last byte are the range's, those beside them aren't, nor is any byte of one without a range.
func TestRangeBesideItsBytes(t *testing.T) {
	d := dice(1105)
	for range 20000 {
		e := d.entries()
		for n := range 8 {
			first, last, ok := pmp.Range(e.cfg, e.addr, n)
			switch {
			case ok && !(first <= last && e.has(n, first) && e.has(n, last) && !e.has(n, first-1) && !e.has(n, last+1)):
				t.Fatalf("Range(%#x, %#x, %d): %#x, %#x", e.cfg, e.addr, n, first, last)
			case !ok && (first != 0 || last != 0 || e.has(n, d.near(e)) || e.has(n, 0)):
				t.Fatalf("Range(%#x, %#x, %d): %#x, %#x, false", e.cfg, e.addr, n, first, last)
			}
		}
	}
}
