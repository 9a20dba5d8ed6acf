package walk_test

import (
	"testing"

	"tandem/api"
	"tandem/walk"
)

// P14.3: many tables, of any entries, under any registers.
func TestWalks(t *testing.T) {
	o := dice(1403)
	seen := map[[2]uint64]int{}
	for range 60 {
		n := o.world()
		b := n.bus(t)
		for range 1500 {
			n.c = o.registers()
			mode, kind, at := o.among(modes(), 3), o.among(kinds(), 4), o.address()
			want, cause := n.bookWalk(mode, kind, at)
			if cause == 0 {
				told{t, b, &n.c}.walks(mode, kind, at, want)
			} else {
				told{t, b, &n.c}.strays(mode, kind, at, cause)
			}
			seen[[2]uint64{cause, uint64(want.Level + 1)}]++
		}
		if t.Failed() {
			return
		}
	}
	for _, end := range [][2]uint64{{0, 0}, {0, 1}, {0, 2}, {0, 3}, {1, 1}, {5, 1}, {7, 1}, {12, 1}, {13, 1}, {15, 1}} {
		if seen[end] < 20 {
			t.Errorf("the cause %d, level %d: seen %d times", end[0], int(end[1])-1, seen[end])
		}
	}
}

// P14.3: a page of each level.
func TestWalksToEachLevel(t *testing.T) {
	o := paged().told(t)
	for _, kind := range kinds() {
		o.walks(api.Supervisor, kind, 0xc0000000, walk.Leaf{Address: 0x80000000, Level: 2, Entry: 0x200000cf, From: 0x80001018})
		o.walks(api.Supervisor, kind, 0xffffffff, walk.Leaf{Address: 0xbfffffff, Level: 2, Entry: 0x200000cf, From: 0x80001018})
		o.walks(api.Supervisor, kind, 0x80200000, walk.Leaf{Address: 0x80200000, Level: 1, Entry: 0x200800cf, From: 0x80002008})
		o.walks(api.Supervisor, kind, 0x803fffff, walk.Leaf{Address: 0x803fffff, Level: 1, Entry: 0x200800cf, From: 0x80002008})
		o.walks(api.Supervisor, kind, 0x80403000, walk.Leaf{Address: 0x80005000, Level: 0, Entry: 0x200014cf, From: 0x80003018})
		o.walks(api.Supervisor, kind, 0x80403fff, walk.Leaf{Address: 0x80005fff, Level: 0, Entry: 0x200014cf, From: 0x80003018})
		o.walks(api.Supervisor, kind, 1<<64-1<<30+0x403abc, walk.Leaf{Address: 0x80005abc, Level: 0, Entry: 0x200014cf, From: 0x80003018})
		o.strays(api.Supervisor, kind, 0x80402fff, pageFaults[counted(kind)])
		o.strays(api.Supervisor, kind, 0x80404000, pageFaults[counted(kind)])
		o.strays(api.Supervisor, kind, 0x80400000, pageFaults[counted(kind)])
		o.strays(api.Supervisor, kind, 0x801fffff, pageFaults[counted(kind)])
		o.strays(api.Supervisor, kind, 0x7fffffff, pageFaults[counted(kind)])
		o.strays(api.Supervisor, kind, 0x100000000, pageFaults[counted(kind)])
	}
}

// P14.3: a page's number has 44 bits, all of which are told; G and the bits 8 and 9 may be anything.
func TestWalksToFarPages(t *testing.T) {
	for bit := range 44 {
		for _, beside := range []uint64{0, g, 1 << 8, 1 << 9} {
			n := paged()
			entry := to(1<<bit, v|r|w|x|a|d|beside)
			n.put(0x80003018, entry)
			n.told(t).walks(api.Supervisor, api.Read, 0x80403123, walk.Leaf{Address: 1<<(12+bit) + 0x123, Entry: entry, From: 0x80003018})
		}
	}
	n := paged()
	n.put(0x80001018, to(1<<44-1<<18, v|r|a))
	n.told(t).walks(api.Supervisor, api.Read, 0xc0000005, walk.Leaf{Address: 1<<56 - 1<<30 + 5, Level: 2, Entry: to(1<<44-1<<18, v|r|a), From: 0x80001018})
}

// P14.3: nothing is translated in M, or by a scheme that is none, whatever the address.
func TestWalksUntranslated(t *testing.T) {
	o := paged().told(t)
	satp := o.c.Satp
	for _, at := range []uint64{0, 1, 0x80212345, 1 << 38, 1 << 63, 1<<64 - 1, 0x10000000} {
		for _, kind := range kinds() {
			o.c.Satp = satp
			o.walks(api.Machine, kind, at, walk.Leaf{Address: at, Level: -1})
			for scheme := range uint64(16) {
				if scheme == 8 {
					continue
				}
				o.c.Satp = scheme<<60 | satp<<4>>4
				for _, mode := range modes() {
					o.walks(mode, kind, at, walk.Leaf{Address: at, Level: -1})
				}
			}
		}
	}
}

// P14.3: modes that are none walk as U does.
func TestWalksOfModes(t *testing.T) {
	n := paged()
	n.put(0x80003020, to(0x80006, v|r|w|x|u|a|d))
	o := n.told(t)
	for _, mode := range modes() {
		switch mode {
		case api.Machine:
			continue
		case api.Supervisor:
			o.strays(mode, api.Write, 0x80404000, api.WritePage)
			o.walks(mode, api.Write, 0x80403000, walk.Leaf{Address: 0x80005000, Entry: 0x200014cf, From: 0x80003018})
		default:
			o.strays(mode, api.Write, 0x80403000, api.WritePage)
			o.walks(mode, api.Write, 0x80404008, walk.Leaf{Address: 0x80006008, Entry: 0x200018df, From: 0x80003020})
		}
	}
}

// P14.3: the bits 63 to 39 have to be as the bit 38 is.
func TestWalksOfFarAddresses(t *testing.T) {
	o := paged().told(t)
	high := uint64(1<<64 - 1<<30 + 0x403000)
	o.walks(api.Supervisor, api.Read, 0x80403000, walk.Leaf{Address: 0x80005000, Entry: 0x200014cf, From: 0x80003018})
	o.walks(api.Supervisor, api.Read, high, walk.Leaf{Address: 0x80005000, Entry: 0x200014cf, From: 0x80003018})
	for _, kind := range kinds() {
		for n := 38; n < 64; n++ {
			o.strays(api.Supervisor, kind, 0x80403000^1<<n, pageFaults[counted(kind)])
			o.strays(api.Supervisor, kind, high^1<<n, pageFaults[counted(kind)])
		}
	}
}

// P14.3: the first table isn't looked at for an address that can't be translated.
func TestWalksPageFaultComesFirst(t *testing.T) {
	o := paged().told(t)
	for _, page := range []uint64{0, 0x10000, 0x7ffff, 0x80100} {
		o.c.Satp = 8<<60 | page
		o.strays(api.Supervisor, api.Read, 1<<38, api.ReadPage)
		o.strays(api.Supervisor, api.Read, 1<<38-1, api.ReadFault)
	}
}

// P14.3: of Satp only the scheme and the page's number count.
func TestWalksBySatp(t *testing.T) {
	o := paged().told(t)
	satp := o.c.Satp
	for n := range 64 {
		o.c.Satp = satp ^ 1<<n
		switch {
		case n < 44:
			if l, cause := walk.Walk(o.b, o.c, api.Supervisor, api.Read, 0xc0000000); cause == 0 && l.Level == 2 {
				t.Errorf("Satp %#x: %#x", o.c.Satp, l)
			}
		case n < 60:
			o.walks(api.Supervisor, api.Read, 0xc0000000, walk.Leaf{Address: 0x80000000, Level: 2, Entry: 0x200000cf, From: 0x80001018})
		default:
			o.walks(api.Supervisor, api.Read, 0xc0000000, walk.Leaf{Address: 0xc0000000, Level: -1})
		}
	}
}

// P14.3: tables stand in the RAM alone, at each level.
func TestWalksThroughNothingElse(t *testing.T) {
	for _, page := range []uint64{0, 0x02000, 0x0200b, 0x0c000, 0x0c200, 0x10000, 0x7ffff, 0x80100, 1<<44 - 1, 1<<32 + 0x80002, 1<<43 + 0x80002} {
		n := paged()
		n.put(0x80001010, to(page, v))
		n.put(0x80002010, to(page, v))
		n.put(0x80001020, to(0x80002, v))
		o := n.told(t)
		for _, kind := range kinds() {
			o.strays(api.Supervisor, kind, 0x80000000, accessFaults[counted(kind)])
			o.strays(api.Supervisor, kind, 0x100400000, accessFaults[counted(kind)])
		}
		o.c.Satp = 8<<60 | page
		for _, kind := range kinds() {
			o.strays(api.User, kind, 0x1000, accessFaults[counted(kind)])
		}
	}
}

// P14.3: a device's register of 8 bytes isn't walked through either, though it can be read, and though a leaf stands there.
func TestWalksThroughNoRegister(t *testing.T) {
	o := paged().told(t)
	for _, at := range []uint64{0x02004000, 0x0200bff8} {
		if !o.b.Write(at, 8, to(0x40000, v|r|w|x|u|a|d)) {
			t.Fatalf("there is no register at %#x", at)
		}
		o.c.Satp = 8<<60 | at>>12
		for _, kind := range kinds() {
			o.strays(api.User, kind, uint64(int64(at%4096<<52)>>25), accessFaults[counted(kind)])
		}
	}
}

// P14.3: the RAM's last page may be a table, up to its last entry.
func TestWalksAtRamsEnd(t *testing.T) {
	n := bare()
	n.c.Satp = 8<<60 | 0x800ff
	n.image = make([]byte, api.RamSize)
	n.put(0x800ff000, to(0, v|r|a))
	n.put(0x800ffff8, to(1<<18, v|r|a))
	o := n.told(t)
	o.walks(api.Supervisor, api.Read, 3, walk.Leaf{Address: 3, Level: 2, Entry: to(0, v|r|a), From: 0x800ff000})
	o.walks(api.Supervisor, api.Read, 1<<64-1, walk.Leaf{Address: 1<<31 - 1, Level: 2, Entry: to(1<<18, v|r|a), From: 0x800ffff8})
}

// P14.3: each entry on the way has to be one that S may read, whoever walks, whatever for.
func TestWalksAskPmp(t *testing.T) {
	for _, at := range []uint64{0x80001010, 0x80002010, 0x80003018} {
		for setting := range 256 {
			n := paged()
			n.put(0x80003018, to(0x80005, v|r|w|x|a|d))
			n.c.Pmpcfg[2], n.c.Pmpaddr[2] = uint8(setting)&^0x18|0x18, at>>2
			o := n.told(t)
			for _, kind := range kinds() {
				if setting%2 == 1 {
					o.walks(api.Supervisor, kind, 0x80403000, walk.Leaf{Address: 0x80005000, Entry: 0x200014cf, From: 0x80003018})
				} else {
					o.strays(api.Supervisor, kind, 0x80403000, accessFaults[counted(kind)])
				}
			}
		}
	}
}

// P14.3: all 8 bytes of an entry are asked for, and no others.
func TestWalksAskPmpForEightBytes(t *testing.T) {
	for _, row := range []struct {
		at    uint64
		reads bool
	}{{0x80002008, true}, {0x8000200c, true}, {0x80002010, false}, {0x80002014, false}, {0x80002018, true}} {
		n := paged()
		n.c.Pmpcfg[0], n.c.Pmpaddr[0] = 0x17, row.at>>2
		if row.reads {
			n.told(t).walks(api.Supervisor, api.Read, 0x80403000, walk.Leaf{Address: 0x80005000, Entry: 0x200014cf, From: 0x80003018})
		} else {
			n.told(t).strays(api.Supervisor, api.Read, 0x80403000, api.ReadFault)
		}
	}
}

// P14.3: what pmp lets be done with the page itself isn't asked.
func TestWalksDontAskForThePage(t *testing.T) {
	n := paged()
	n.c.Pmpcfg[0], n.c.Pmpaddr[0] = 0x18, 0x80005000>>2|0x1ff
	n.put(0x80003020, to(0x10000, v|r|w|x|a|d))
	o := n.told(t)
	for _, kind := range kinds() {
		o.walks(api.Supervisor, kind, 0x80403008, walk.Leaf{Address: 0x80005008, Entry: 0x200014cf, From: 0x80003018})
		o.walks(api.Supervisor, kind, 0x80404003, walk.Leaf{Address: 0x10000003, Entry: to(0x10000, v|r|w|x|a|d), From: 0x80003020})
	}
}

// P14.3: each bit of an entry that leads on, at each level.
func TestWalksThroughEntries(t *testing.T) {
	for _, at := range []uint64{0x80001010, 0x80002010} {
		for bit := range 64 {
			n := paged()
			n.put(at, n.entryAt(at)^1<<bit)
			o := n.told(t)
			want, cause := n.bookWalk(api.Supervisor, api.Read, 0x80403000)
			switch {
			case bit == 5, bit == 8, bit == 9:
				o.walks(api.Supervisor, api.Read, 0x80403000, walk.Leaf{Address: 0x80005000, Entry: 0x200014cf, From: 0x80003018})
			case bit < 10 && bit != 1 && bit != 3, bit >= 54:
				o.strays(api.Supervisor, api.Read, 0x80403000, api.ReadPage)
			case cause != 0:
				o.strays(api.Supervisor, api.Read, 0x80403000, cause)
			default:
				o.walks(api.Supervisor, api.Read, 0x80403000, want)
			}
		}
	}
}

// P14.3: at the level 0 nothing leads on.
func TestWalksEndAtLevel0(t *testing.T) {
	for bits := range uint64(1024) {
		if bits&(r|x) != 0 {
			continue
		}
		n := paged()
		n.put(0x80003018, to(0x80003, bits))
		o := n.told(t)
		for _, kind := range kinds() {
			o.strays(api.Supervisor, kind, 0x80403000, pageFaults[counted(kind)])
		}
	}
}

// P14.3: greater pages begin at multiples of their size; those of the level 0 begin anywhere.
func TestWalksToWherePagesBegin(t *testing.T) {
	for bit := range 20 {
		n := paged()
		n.put(0x80001018, to(1<<bit, v|r|a))
		n.put(0x80002008, to(1<<bit, v|r|a))
		n.put(0x80003018, to(1<<bit, v|r|a))
		o := n.told(t)
		page := uint64(1) << (bit + 12)
		if bit >= 18 {
			o.walks(api.Supervisor, api.Read, 0xc0000001, walk.Leaf{Address: page + 1, Level: 2, Entry: to(1<<bit, v|r|a), From: 0x80001018})
		} else {
			o.strays(api.Supervisor, api.Read, 0xc0000001, api.ReadPage)
		}
		if bit >= 9 {
			o.walks(api.Supervisor, api.Read, 0x80200001, walk.Leaf{Address: page + 1, Level: 1, Entry: to(1<<bit, v|r|a), From: 0x80002008})
		} else {
			o.strays(api.Supervisor, api.Read, 0x80200001, api.ReadPage)
		}
		o.walks(api.Supervisor, api.Read, 0x80403001, walk.Leaf{Address: page + 1, Entry: to(1<<bit, v|r|a), From: 0x80003018})
	}
}

// P14.3: at each level each set of a leaf's bits, by all kinds.
func TestWalksByRights(t *testing.T) {
	for bits := range uint64(256) {
		n := paged()
		n.put(0x80001018, to(0x40000, bits))
		n.put(0x80002008, to(0x40000, bits))
		n.put(0x80003018, to(0x40000, bits))
		o := n.told(t)
		for _, status := range []uint64{0, sum, mxr, sum | mxr} {
			o.c.Mstatus = status
			for _, at := range []uint64{0xc0000077, 0x80200077, 0x80403077} {
				for _, kind := range kinds() {
					for _, mode := range []int{api.Supervisor, api.User, 2} {
						want, cause := n.bookWalk(mode, kind, at)
						if cause == 0 {
							o.walks(mode, kind, at, want)
						} else {
							o.strays(mode, kind, at, cause)
						}
					}
				}
			}
		}
	}
}

// P14.3: MPRV and MPP aren't looked at: the mode that is handed in is one that judges.
func TestWalksByTheModeAlone(t *testing.T) {
	o := paged().told(t)
	for mpp := range uint64(4) {
		o.c.Mstatus = mprv | mpp<<11
		o.walks(api.Machine, api.Read, 0x80403000, walk.Leaf{Address: 0x80403000, Level: -1})
		o.walks(api.Supervisor, api.Read, 0x80403000, walk.Leaf{Address: 0x80005000, Entry: 0x200014cf, From: 0x80003018})
		o.strays(api.User, api.Read, 0x80403000, api.ReadPage)
	}
}
