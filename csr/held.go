package csr

import (
	"math"

	"tandem/api"
)

// extensions is what misa tells: 64 bits, and A, C, D, F, I, M, S, U.
const extensions = 0x800000000014112d

// The causes that may be delegated: all from FetchFault to CallSupervisor, and the page faults.
const causeBits = 1<<(api.CallSupervisor+1) - 1<<api.FetchFault | 1<<api.FetchPage | 1<<api.ReadPage | 1<<api.WritePage

// The schemes of Satp that there are.
const (
	schemeAt = 60
	bare     = 0
	sv39     = 8
)

// look tells what a register reads; false: there is none of that number. One that is a part of another one falls through to it, with the bits that are seen by it.
func look(c *api.Csrs, n int, lines, now uint64) (uint64, bool) {
	seen := uint64(math.MaxUint64)
	switch n {
	case fflags:
		seen = flagBits
		fallthrough
	case fcsr:
		return c.Fcsr & seen, true
	case frm:
		return c.Fcsr & roundingBits >> roundingAt, true
	case sstatus:
		seen = supervisorSees
		fallthrough
	case mstatus:
		return c.Mstatus & seen, true
	case sie:
		seen = c.Mideleg
		fallthrough
	case mie:
		return c.Mie & seen, true
	case sip:
		seen = c.Mideleg
		fallthrough
	case mip:
		return (c.Mip | lines&lineBits) & seen, true
	case misa:
		return extensions, true
	case pmpcfg0:
		return joined(c.Pmpcfg), true
	case time:
		return now, true
	}
	if own := plain(c, n); own != nil {
		return *own, true
	}
	return 0, isNought(n)
}

// plain is where a register stands that reads as it is held; nil: it isn't such a one.
func plain(c *api.Csrs, n int) *uint64 {
	switch n {
	case stvec:
		return &c.Stvec
	case scounteren:
		return &c.Scounteren
	case sscratch:
		return &c.Sscratch
	case sepc:
		return &c.Sepc
	case scause:
		return &c.Scause
	case stval:
		return &c.Stval
	case satp:
		return &c.Satp
	case medeleg:
		return &c.Medeleg
	case mideleg:
		return &c.Mideleg
	case mtvec:
		return &c.Mtvec
	case mcounteren:
		return &c.Mcounteren
	case mcountinhibit:
		return &c.Mcountinhibit
	case mscratch:
		return &c.Mscratch
	case mepc:
		return &c.Mepc
	case mcause:
		return &c.Mcause
	case mtval:
		return &c.Mtval
	case pmpaddr0, pmpaddr1, pmpaddr2, pmpaddr3, pmpaddr4, pmpaddr5, pmpaddr6, pmpaddr7:
		return &c.Pmpaddr[n-pmpaddr0]
	case mcycle, cycle:
		return &c.Mcycle
	case minstret, instret:
		return &c.Minstret
	}
	return nil
}

// fits tells whether a number is one that a plain register takes.
func fits(n int, v uint64) bool {
	scheme := v >> schemeAt
	return n != satp || scheme == bare || scheme == sv39
}

// left tells which bits of what is written into a plain register are left.
func left(n int) uint64 {
	switch n {
	case stvec, mtvec:
		return ^uint64(2)
	case sepc, mepc:
		return ^uint64(1)
	case scounteren, mcounteren:
		return 7
	case mcountinhibit:
		return 5
	case medeleg:
		return causeBits
	case mideleg:
		return supervisorBits
	}
	return math.MaxUint64
}

// joined is the number of all settings, that of the entry 0 the lowest byte.
func joined(cfg [api.PmpEntries]uint8) uint64 {
	v := uint64(0)
	for n, setting := range cfg {
		v |= uint64(setting) << (8 * n)
	}
	return v
}
