package pmp_test

import (
	"math"
	"testing"
)

// P11.3: each setting, free or locked, behind a write of each byte, beside others.
func TestConfigOfEachByte(t *testing.T) {
	for old := range 256 {
		for b := range 256 {
			n := (old + b) % 8
			cfg, want := settings{1, 2, 0x83, 4, 0x78, 0x8f, 6, 0x1b}, settings{0, 0, 0x83, 0, 0, 0x8f, 0, 0}
			cfg[n], want[n] = uint8(old), wrote(uint8(old), uint8(b))
			told{t}.config(cfg, uint64(b)<<(8*n), want)
		}
	}
}

// P11.3: the byte 0 is the lowest one, each goes to its own setting.
func TestConfigOfAllBytes(t *testing.T) {
	told{t}.config(settings{}, 0x1f1917100f0b8984, settings{0x84, 0x89, 0x0b, 0x0f, 0x10, 0x17, 0x19, 0x1f})
	told{t}.config(settings{}, math.MaxUint64, settings{0x9f, 0x9f, 0x9f, 0x9f, 0x9f, 0x9f, 0x9f, 0x9f})
	told{t}.config(settings{0x1f, 1, 3, 4, 5, 7, 8, 0x10}, 0, settings{})
	told{t}.config(settings{}, 0x6060606060606060, settings{})
}

// P11.3: what is locked stays, with the bits that aren't looked at.
func TestConfigOfLockedOnes(t *testing.T) {
	for n := range 8 {
		for _, old := range []uint8{0x80, 0x87, 0x9f, 0xe0, 0xff, 0xe2} {
			want := settings{0x19, 0x19, 0x19, 0x19, 0x19, 0x19, 0x19, 0x19}
			want[n] = old
			var cfg settings
			cfg[n] = old
			told{t}.config(cfg, 0x1919191919191919, want)
		}
	}
}

// P11.3: a byte with W and not R turns nothing, not even the bits beside; the others are written all the same.
func TestConfigOfWritesAlone(t *testing.T) {
	for n := range 8 {
		for _, b := range []uint64{0x02, 0x06, 0x0a, 0x12, 0x1a, 0x1e, 0x82, 0x9e, 0xfe, 0x62} {
			for _, old := range []uint8{0, 0x1f, 0x65, 0x02, 0x07, 0x72} {
				cfg, want := settings{}, settings{0x11, 0x11, 0x11, 0x11, 0x11, 0x11, 0x11, 0x11}
				cfg[n], want[n] = old, old
				told{t}.config(cfg, 0x1111111111111111&^(0xff<<(8*n))|b<<(8*n), want)
			}
		}
	}
}

// P11.3: many of any kind.
func TestConfigOfMany(t *testing.T) {
	d := dice(1107)
	for range 20000 {
		cfg, v := d.entries().cfg, d.next()
		var want settings
		for n, old := range cfg {
			want[n] = wrote(old, uint8(v>>(8*n)))
		}
		told{t}.config(cfg, v, want)
	}
}

// P11.4: an address is the lowest 54 bits of what is written, the others stay as they are.
func TestAddressOfEachBit(t *testing.T) {
	for n := range 8 {
		for bit := range 64 {
			e := entries{settings{}, addresses{1, 2, 3, 1 << 63, 5, 1<<54 | 6, 7, math.MaxUint64}}
			for _, v := range []uint64{1 << bit, ^(uint64(1) << bit)} {
				want := e.addr
				want[n] = v % (1 << 54)
				told{t}.address(e, n, v, want)
			}
		}
	}
}

// P11.4: by each setting of the entry's own and each of the one behind it: a lock of its own, or one up to behind it, keeps it as it is, with all its bits.
func TestAddressByEachSetting(t *testing.T) {
	for n := range 8 {
		for own := range 256 {
			for next := 0; next < 256; next += 1 + next%7 {
				e := entries{addr: addresses{1, 2, 3, 4, 5, 6, 7, 8}}
				e.cfg[n] = uint8(own)
				if n < 7 {
					e.cfg[n+1] = uint8(next)
				}
				e.addr[n] = math.MaxUint64 - 5
				want := e.addr
				if own < 128 && (n == 7 || next < 128 || next/8%4 != 1) {
					want[n] = 9
				}
				told{t}.address(e, n, 1<<54|9, want)
			}
		}
	}
}

// P11.4: locks farther away, ahead and behind, keep nothing; nor does the first entry, locked and up to its address, keep the last one.
func TestAddressByLocksFarAway(t *testing.T) {
	for n := range 8 {
		for other := range 8 {
			for _, s := range []uint8{0x80, 0x88, 0x8f, 0x90, 0x98, 0xff, 0x08, 0x7f} {
				if other == n {
					continue
				}
				var e entries
				e.cfg[other] = s
				want := addresses{}
				if other != n+1 || s&0x98 != 0x88 {
					want[n] = 5
				}
				told{t}.address(e, n, 5, want)
			}
		}
	}
}

// P11.4: of no entry: all stay.
func TestAddressOfNoEntry(t *testing.T) {
	d := dice(1108)
	for _, n := range nowhere() {
		told{t}.address(entries{}, n, 9, addresses{})
		for range 20 {
			e := d.entries()
			told{t}.address(e, n, d.next(), e.addr)
		}
	}
}

// P11.4: many of any kind.
func TestAddressOfMany(t *testing.T) {
	d := dice(1109)
	for range 20000 {
		e, v := d.entries(), d.next()
		for n := range 8 {
			want := e.addr
			if !e.stuck(n) {
				want[n] = v % (1 << 54)
			}
			told{t}.address(e, n, v, want)
		}
	}
}
