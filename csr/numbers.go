package csr

import "tandem/api"

// The numbers of registers; of rows in which all are alike, of the first and the last one.
const (
	fflags = 0x001
	frm    = 0x002
	fcsr   = 0x003

	sstatus    = 0x100
	sie        = 0x104
	stvec      = 0x105
	scounteren = 0x106
	senvcfg    = 0x10a
	sscratch   = 0x140
	sepc       = 0x141
	scause     = 0x142
	stval      = 0x143
	sip        = 0x144
	satp       = 0x180

	mstatus       = 0x300
	misa          = 0x301
	medeleg       = 0x302
	mideleg       = 0x303
	mie           = 0x304
	mtvec         = 0x305
	mcounteren    = 0x306
	menvcfg       = 0x30a
	mcountinhibit = 0x320
	mhpmevent3    = 0x323
	mhpmevent31   = 0x33f
	mscratch      = 0x340
	mepc          = 0x341
	mcause        = 0x342
	mtval         = 0x343
	mip           = 0x344

	pmpcfg0   = 0x3a0
	pmpcfg2   = 0x3a2
	pmpaddr0  = 0x3b0
	pmpaddr1  = 0x3b1
	pmpaddr2  = 0x3b2
	pmpaddr3  = 0x3b3
	pmpaddr4  = 0x3b4
	pmpaddr5  = 0x3b5
	pmpaddr6  = 0x3b6
	pmpaddr7  = 0x3b7
	pmpaddr8  = 0x3b8
	pmpaddr15 = 0x3bf

	mcycle        = 0xb00
	minstret      = 0xb02
	mhpmcounter3  = 0xb03
	mhpmcounter31 = 0xb1f

	cycle        = 0xc00
	time         = 0xc01
	instret      = 0xc02
	hpmcounter3  = 0xc03
	hpmcounter31 = 0xc1f

	mvendorid  = 0xf11
	mconfigptr = 0xf15
)

// counterBits are those of a counter's number that tell which one it is.
const counterBits = 0x1f

// taken is the mode for which a number is taken.
func taken(mode int) int {
	if mode == api.Machine || mode == api.Supervisor {
		return mode
	}
	return api.User
}

// lowestMode is that in which a register may be touched.
func lowestMode(n int) int {
	return n >> 8 & 3
}

// isReadOnly tells whether nothing may write a register.
func isReadOnly(n int) bool {
	return n>>10&3 == 3
}

// among tells whether a number is one of a row.
func among(n, first, last int) bool {
	return first <= n && n <= last
}

// isOfFloats tells whether a register is a part of Fcsr.
func isOfFloats(n int) bool {
	return among(n, fflags, fcsr)
}

// isCounter tells whether a register is a counter that may be let be read below M.
func isCounter(n int) bool {
	return among(n, cycle, hpmcounter31)
}

// isNought tells whether there is a register of that number that is always 0.
func isNought(n int) bool {
	switch n {
	case senvcfg, menvcfg, pmpcfg2:
		return true
	}
	return among(n, mhpmevent3, mhpmevent31) ||
		among(n, pmpaddr8, pmpaddr15) ||
		among(n, mhpmcounter3, mhpmcounter31) ||
		among(n, hpmcounter3, hpmcounter31) ||
		among(n, mvendorid, mconfigptr)
}
