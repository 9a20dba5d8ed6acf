package walk_test

import (
	"testing"

	"tandem/api"
)

// P14.1: all modes, kinds and fields, whatever else Mstatus holds.
func TestModes(t *testing.T) {
	o := dice(1401)
	for _, mode := range modes() {
		for _, kind := range kinds() {
			for mpp := range uint64(4) {
				for range 8 {
					c := api.Csrs{Mstatus: o.next()&^(3<<11) | mpp<<11, Satp: o.next(), Mie: o.next()}
					told{t: t, c: &c}.judged(mode, kind, bookMode(&c, mode, kind))
				}
			}
		}
	}
}

// P14.1: row by row.
func TestModesByRow(t *testing.T) {
	for _, row := range []struct {
		status     uint64
		mode, kind int
		want       int
	}{
		{mprv | 0<<11, api.Machine, api.Read, api.User},
		{mprv | 1<<11, api.Machine, api.Read, api.Supervisor},
		{mprv | 2<<11, api.Machine, api.Read, api.User},
		{mprv | 3<<11, api.Machine, api.Read, api.Machine},
		{mprv | 1<<11, api.Machine, api.Write, api.Supervisor},
		{mprv | 1<<11, api.Machine, api.Atomic, api.Supervisor},
		{mprv | 1<<11, api.Machine, api.Fetch, api.Machine},
		{mprv | 1<<11, api.Machine, 4, api.Supervisor},
		{mprv | 1<<11, api.Machine, -1, api.Supervisor},
		{1 << 11, api.Machine, api.Read, api.Machine},
		{mprv | 1<<11, api.User, api.Read, api.User},
		{mprv | 3<<11, api.User, api.Write, api.User},
		{mprv | 3<<11, api.Supervisor, api.Read, api.Supervisor},
		{mprv | 1<<11, 2, api.Read, api.User},
		{mprv | 1<<11, 7, api.Read, api.User},
		{mprv | 1<<11, -1, api.Fetch, api.User},
	} {
		told{t: t, c: &api.Csrs{Mstatus: row.status}}.judged(row.mode, row.kind, row.want)
	}
}

// P14.2: all that entries' lowest 8 bits, SUM and MXR, modes and kinds may be, whatever else the entry and Mstatus hold.
func TestAllows(t *testing.T) {
	o := dice(1402)
	for status := uint64(0); status <= sum|mxr; status += sum {
		for _, mode := range modes() {
			for _, kind := range kinds() {
				for bits := range uint64(256) {
					c := api.Csrs{Mstatus: o.next()&^(sum|mxr) | status}
					entry := o.next()&^255 | bits
					told{t: t, c: &c}.allows(mode, kind, entry, bookAllows(&c, mode, kind, entry))
				}
			}
		}
	}
}

// P14.2: row by row.
func TestAllowsByRow(t *testing.T) {
	for _, row := range []struct {
		status     uint64
		mode, kind int
		entry      uint64
		want       bool
	}{
		{0, api.Supervisor, api.Read, a | r, true}, // V isn't looked at
		{0, api.Supervisor, api.Read, r, false},
		{0, api.Supervisor, api.Read, a | w | x | d, false},
		{mxr, api.Supervisor, api.Read, a | x, true},
		{mxr, api.Supervisor, api.Read, a | w, false},
		{mxr, api.Supervisor, 9, a | x, true},
		{mxr, api.Supervisor, api.Atomic, a | x | w | d, false},
		{mxr, api.Supervisor, api.Fetch, a | r, false},
		{0, api.Supervisor, api.Fetch, a | x, true},
		{0, api.Supervisor, api.Fetch, x, false},
		{0, api.Supervisor, api.Write, a | d | w, true}, // R isn't asked
		{0, api.Supervisor, api.Write, a | d | r | x, false},
		{0, api.Supervisor, api.Write, a | r | w, false},
		{0, api.Supervisor, api.Write, d | r | w, false},
		{0, api.Supervisor, api.Atomic, a | d | r | w, true},
		{0, api.Supervisor, api.Atomic, a | d | w, false},
		{0, api.Supervisor, api.Atomic, a | d | r, false},
		{0, api.Supervisor, api.Atomic, a | r | w, false},
		{0, api.Supervisor, api.Read, a | r | u, false},
		{sum, api.Supervisor, api.Read, a | r | u, true},
		{sum, api.Supervisor, api.Atomic, a | d | r | w | u, true},
		{sum, api.Supervisor, api.Fetch, a | x | u, false},
		{sum, api.Supervisor, api.Fetch, a | x, true},
		{0, api.User, api.Fetch, a | x | u, true},
		{0, api.User, api.Read, a | r | u, true},
		{sum, api.User, api.Read, a | r, false},
		{0, 2, api.Read, a | r | u, true},
		{0, 5, api.Read, a | r, false},
		{0, api.Machine, api.Read, a | r | u, true},
		{0, api.Machine, api.Read, a | r, false},
		{0, api.Supervisor, api.Read, 1<<63 | a | r, true},
		{0, api.Supervisor, api.Read, 0, false},
	} {
		told{t: t, c: &api.Csrs{Mstatus: row.status}}.allows(row.mode, row.kind, row.entry, row.want)
	}
}
