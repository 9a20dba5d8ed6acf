package trap_test

import (
	"testing"

	"tandem/api"
)

// The chapter's examples, row by row.

func TestExamplesOfEnterIntoM(t *testing.T) {
	c := api.Csrs{Mtvec: 0x1001}
	want := c
	want.Mepc, want.Mcause = 0x80000004, 8
	told{t}.enter(c, api.User, 0x80000004, 8, 0, place{want, api.Machine, 0x1000})
	want.Mcause = 0x8000000000000007
	told{t}.enter(c, api.User, 0x80000004, 0x8000000000000007, 0, place{want, api.Machine, 0x101c})
}

func TestExamplesOfEnterIntoS(t *testing.T) {
	c := api.Csrs{Medeleg: 0x100, Stvec: 0x2000, Mstatus: 1 << 1}
	want := c
	want.Sepc, want.Scause, want.Mstatus = 0x80000004, 8, 1<<8|1<<5
	told{t}.enter(c, api.Supervisor, 0x80000004, 8, 0, place{want, api.Supervisor, 0x2000})
	want = c
	want.Mepc, want.Mcause, want.Mstatus = 0x80000004, 8, 3<<11|1<<1
	told{t}.enter(c, api.Machine, 0x80000004, 8, 0, place{want, api.Machine, 0})
}

func TestExamplesOfReturn(t *testing.T) {
	c := api.Csrs{Mstatus: 1<<11 | 1<<7 | 1<<17, Mepc: 0x44}
	want := c
	want.Mstatus = 1<<3 | 1<<7
	told{t}.back(c, api.Mret, place{want, api.Supervisor, 0x44})
}

func TestExamplesOfPending(t *testing.T) {
	c := api.Csrs{Mie: 0x888}
	on := c
	on.Mstatus = 1 << 3
	told{t}.pending(on, api.Machine, 0x880, 11)
	told{t}.pending(c, api.Machine, 0x880, -1)
	told{t}.pending(c, api.User, 0x880, 11)
	c = api.Csrs{Mie: 0xaaa, Mideleg: 0x222, Mip: 0x222, Mstatus: 1 << 1}
	told{t}.pending(c, api.Supervisor, 0, 9)
	c.Mstatus = 1 << 3
	told{t}.pending(c, api.Machine, 0, -1)
}
