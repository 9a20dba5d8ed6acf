package walk_test

import (
	"testing"

	"tandem/api"
)

// P14.4: many tables, registers, kinds and sizes; with addresses that aren't translated, too.
func TestReaches(t *testing.T) {
	o := dice(1404)
	reached, failed := 0, 0
	for range 60 {
		n := o.world()
		b := n.bus(t)
		for range 1500 {
			n.c = o.registers()
			at := o.address()
			if o.one(2) {
				n.c.Satp = 0
				at = []uint64{0x80000000, 0x800ffff8, 0x80100000, 0x80001000, 0x10000000, 0x0c000000, 0x0200bff8, 0, 1<<64 - 8}[o.below(9)] + o.below(12)
			}
			mode, kind, size := o.among(modes(), 3), o.among(kinds(), 4), o.among(sizes(), 4)
			want, cause := n.bookReach(b, mode, kind, at, size)
			if cause == 0 {
				reached++
				told{t, b, &n.c}.reaches(mode, kind, at, size, want)
			} else {
				failed++
				told{t, b, &n.c}.fails(mode, kind, at, size, cause)
			}
		}
		if t.Failed() {
			return
		}
	}
	if reached < 1000 || failed < 1000 {
		t.Errorf("reached %d times, failed %d times", reached, failed)
	}
}

// P14.4: translated accesses are made at the physical address.
func TestReachesThroughTables(t *testing.T) {
	o := paged().told(t)
	for _, kind := range []int{api.Fetch, api.Read, api.Write, api.Atomic} {
		for _, size := range []int{1, 2, 4, 8} {
			o.reaches(api.Supervisor, kind, 0x80403008, size, 0x80005008)
			o.reaches(api.Machine, kind, 0x80001000, size, 0x80001000)
			o.fails(api.User, kind, 0x80403008, size, pageFaults[kind])
			o.fails(api.Supervisor, kind, 0x80404008, size, pageFaults[kind])
			o.fails(api.Supervisor, kind, 0x80200000, size, accessFaults[kind]) // behind the RAM
		}
	}
}

// P14.4: M's own accesses, but fetches, are those of another mode, by MPRV.
func TestReachesAsAnotherMode(t *testing.T) {
	o := paged().told(t)
	o.c.Mstatus = mprv | 1<<11
	o.reaches(api.Machine, api.Read, 0x80403008, 8, 0x80005008)
	o.reaches(api.Machine, api.Write, 0x80403008, 8, 0x80005008)
	o.reaches(api.Machine, api.Atomic, 0x80403008, 8, 0x80005008)
	o.reaches(api.Machine, api.Fetch, 0x80003008, 4, 0x80003008)
	o.fails(api.Machine, api.Fetch, 0x80403008, 4, api.FetchFault)
	o.c.Mstatus = mprv
	o.fails(api.Machine, api.Read, 0x80403008, 8, api.ReadPage)
	o.c.Mstatus = mprv | 3<<11
	o.reaches(api.Machine, api.Read, 0x80003008, 8, 0x80003008)
	o.c.Mstatus = 1 << 11
	o.reaches(api.Machine, api.Read, 0x80003008, 8, 0x80003008)
}

// P14.4: pmp is asked by the mode that judges, by the kind as it is, at the physical address.
func TestReachesAskPmp(t *testing.T) {
	for setting := range uint8(8) {
		n := paged()
		n.c.Pmpcfg[0], n.c.Pmpaddr[0] = 0x18|setting, 0x80005000>>2|0x1ff
		o := n.told(t)
		for kind, needs := range []uint8{4, 1, 2, 3} {
			o.c.Mstatus = 0
			o.reaches(api.Machine, kind, 0x80005010, 8, 0x80005010)
			if setting&needs == needs {
				o.reaches(api.Supervisor, kind, 0x80403010, 8, 0x80005010)
				o.c.Mstatus = mprv | 1<<11
				o.reaches(api.Machine, kind, []uint64{0x80005010, 0x80403010, 0x80403010, 0x80403010}[kind], 8, 0x80005010)
				continue
			}
			o.fails(api.Supervisor, kind, 0x80403010, 8, accessFaults[kind])
			o.c.Mstatus = mprv | 1<<11
			if kind != api.Fetch {
				o.fails(api.Machine, kind, 0x80403010, 8, accessFaults[kind])
			}
		}
	}
}

// P14.4: pmp is asked for all bytes.
func TestReachesAskPmpForAllBytes(t *testing.T) {
	n := paged()
	n.c.Pmpcfg[0], n.c.Pmpaddr[0] = 0x10, 0x80005014>>2
	o := n.told(t)
	o.reaches(api.Supervisor, api.Read, 0x80403010, 4, 0x80005010)
	o.fails(api.Supervisor, api.Read, 0x80403010, 8, api.ReadFault)
	o.fails(api.Supervisor, api.Read, 0x80403014, 4, api.ReadFault)
	o.reaches(api.Supervisor, api.Read, 0x80403018, 4, 0x80005018)
}

// P14.4: no entry of pmp lets M alone do it.
func TestReachesWithoutPmp(t *testing.T) {
	o := bare().told(t)
	*o.c = api.Csrs{}
	for kind := range 4 {
		o.reaches(api.Machine, kind, 0x80000000, 2, 0x80000000)
		for _, mode := range modes() {
			if mode != api.Machine {
				o.fails(mode, kind, 0x80000000, 2, accessFaults[kind])
			}
		}
	}
}

// P14.4: devices are read and written alone, also through tables; what is nowhere can't be accessed.
func TestReachesDevices(t *testing.T) {
	n := paged()
	n.put(0x80003020, to(0x10000, v|r|w|x|a|d))
	n.put(0x80003028, to(0x0c200, v|r|w|x|a|d))
	o := n.told(t)
	for kind := range 4 {
		if kind == api.Read || kind == api.Write {
			o.reaches(api.Supervisor, kind, 0x80404000, 1, 0x10000000)
			o.reaches(api.Supervisor, kind, 0x80405004, 4, 0x0c200004)
			o.reaches(api.Machine, kind, 0x02004000, 8, 0x02004000)
		} else {
			o.fails(api.Supervisor, kind, 0x80404000, 1, accessFaults[kind])
			o.fails(api.Supervisor, kind, 0x80405004, 4, accessFaults[kind])
			o.fails(api.Machine, kind, 0x02004000, 8, accessFaults[kind])
		}
		o.fails(api.Supervisor, kind, 0x80404000, 4, accessFaults[kind])
		o.fails(api.Machine, kind, 0x7ffffffc, 8, accessFaults[kind])
		o.fails(api.Machine, kind, 0x80100000, 1, accessFaults[kind])
		o.fails(api.Machine, kind, 0, 4, accessFaults[kind])
		o.fails(api.Machine, kind, 1<<64-1, 1, accessFaults[kind])
	}
}

// P14.4: whether an address is a multiple of the size isn't asked, and bytes behind the first one lie behind it physically, too.
func TestReachesAnyBytes(t *testing.T) {
	n := paged()
	n.put(0x80003020, to(0x800ff, v|r|w|x|a|d))
	o := n.told(t)
	for kind := range 4 {
		o.reaches(api.Supervisor, kind, 0x80403001, 8, 0x80005001)
		o.reaches(api.Supervisor, kind, 0x80403ffd, 8, 0x80005ffd)
		o.reaches(api.Supervisor, kind, 0x80404ff8, 8, 0x800ffff8)
		o.reaches(api.Supervisor, kind, 0x80404ffc, 4, 0x800ffffc)
		o.fails(api.Supervisor, kind, 0x80404ff9, 8, accessFaults[kind])
		o.fails(api.Supervisor, kind, 0x80404ffc, 8, accessFaults[kind])
	}
}

// P14.4: a kind that is none, or a size, is refused; but for Walk's own rules the kind counts as Read.
func TestReachesOfNoKind(t *testing.T) {
	o := paged().told(t)
	for _, kind := range kinds()[4:] {
		o.fails(api.Supervisor, kind, 0x80403000, 4, api.ReadFault)
		o.fails(api.Supervisor, kind, 0x80404000, 4, api.ReadPage)
		o.fails(api.Machine, kind, 0x80000000, 4, api.ReadFault)
		o.c.Mstatus = mprv
		o.fails(api.Machine, kind, 0x80403000, 4, api.ReadPage)
		o.c.Mstatus = 0
	}
	for _, size := range sizes()[4:] {
		for kind := range 4 {
			o.fails(api.Supervisor, kind, 0x80403000, size, accessFaults[kind])
			o.fails(api.Supervisor, kind, 0x80404000, size, pageFaults[kind])
			o.fails(api.Machine, kind, 0x80000000, size, accessFaults[kind])
		}
	}
}

// P14.4: modes that are none are taken for U.
func TestReachesOfNoMode(t *testing.T) {
	n := paged()
	n.put(0x80003020, to(0x80004, v|r|w|x|u|a|d))
	o := n.told(t)
	for _, mode := range modes()[2:] {
		o.reaches(mode, api.Read, 0x80404010, 8, 0x80004010)
		o.fails(mode, api.Read, 0x80403010, 8, api.ReadPage)
	}
}
