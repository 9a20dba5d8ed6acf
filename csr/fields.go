package csr

import "tandem/api"

// The fields of Mstatus, each by its bits; of two of them there are two bits.
const (
	_ = 1 << iota
	fieldSIE
	_
	fieldMIE
	_
	fieldSPIE
	_
	fieldMPIE
	fieldSPP
	_
	_
	lowMPP
	highMPP
	lowFS
	highFS
	_
	_
	fieldMPRV
	fieldSUM
	fieldMXR
	fieldTVM
	fieldTW
	fieldTSR

	fieldMPP = lowMPP | highMPP
	fieldFS  = lowFS | highFS
)

// The bits of Mstatus that no write turns by themselves.
const (
	long      = 1 << 33 // 64 bits, for U
	alwaysOne = long | 1<<35
	dirty     = 1 << 63 // told by FS
)

// What may be written of Mstatus, all of it and from S, and what S sees of it.
const (
	supervisorFields = fieldSIE | fieldSPIE | fieldSPP | fieldFS | fieldSUM | fieldMXR
	fields           = supervisorFields | fieldMIE | fieldMPIE | fieldMPP | fieldMPRV | fieldTVM | fieldTW | fieldTSR
	supervisorSees   = supervisorFields | long | dirty
)

// The parts of Fcsr.
const (
	flagBits     = 0x1f
	roundingAt   = 5
	roundingBits = 7 << roundingAt
)

// The bits of Mip, Mie and Mideleg that there are; the lines are those that devices hold.
const (
	softBit        = 1 << api.SoftSupervisor
	supervisorBits = softBit | 1<<api.TimerSupervisor | 1<<api.OuterSupervisor
	machineBits    = 1<<api.SoftMachine | 1<<api.TimerMachine | 1<<api.OuterMachine
	lineBits       = machineBits | 1<<api.OuterSupervisor
)

// mix is a number in which some bits are those of another one.
func mix(old, v, bits uint64) uint64 {
	return old&^bits | v&bits
}

// statusBehind is Mstatus behind a write of all its fields.
func statusBehind(old, v uint64) uint64 {
	if v&fieldMPP == highMPP { // there is no mode 2
		v = mix(v, old, fieldMPP)
	}
	v = v&fields | alwaysOne
	if v&fieldFS == fieldFS {
		v |= dirty
	}
	return v
}

// floatsBehind is Fcsr behind a write of one of its registers.
func floatsBehind(old uint64, n int, v uint64) uint64 {
	switch n {
	case fflags:
		return mix(old, v, flagBits)
	case frm:
		return mix(old, v<<roundingAt, roundingBits)
	}
	return v & (flagBits | roundingBits)
}

// counters tells which counters may be read in a mode: in U those that may be in S, if S lets them be.
func counters(c *api.Csrs, mode int) uint64 {
	let := ^uint64(0)
	switch mode {
	case api.User:
		let = c.Scounteren
		fallthrough
	case api.Supervisor:
		let &= c.Mcounteren
	}
	return let
}
