package trap_test

import "tandem/api"

// The chapter's promises, read a second time: bit by bit, and M and S each by itself.

// entered is where a trap leads.
func entered(c api.Csrs, mode int, pc, cause, tval uint64) place {
	mode = known(mode)
	low := int(cause % 64)
	isInterrupt := cause >= 1<<63
	if mode < 3 && (isInterrupt && bit(c.Mideleg, low) || !isInterrupt && bit(c.Medeleg, low)) {
		c.Sepc, c.Scause, c.Stval = pc-pc%2, cause, tval
		c.Mstatus = set(c.Mstatus, 8, mode == 1)
		c.Mstatus = set(c.Mstatus, 5, bit(c.Mstatus, 1))
		c.Mstatus = set(c.Mstatus, 1, false)
		return place{c, 1, led(c.Stvec, cause)}
	}
	c.Mepc, c.Mcause, c.Mtval = pc-pc%2, cause, tval
	c.Mstatus = set(c.Mstatus, 11, mode != 0)
	c.Mstatus = set(c.Mstatus, 12, mode == 3)
	c.Mstatus = set(c.Mstatus, 7, bit(c.Mstatus, 3))
	c.Mstatus = set(c.Mstatus, 3, false)
	return place{c, 3, led(c.Mtvec, cause)}
}

// led is the vector of a register for a cause.
func led(t, cause uint64) uint64 {
	at := t / 4 * 4
	if t%2 == 1 && cause >= 1<<63 {
		for range 4 {
			at += cause - 1<<63
		}
	}
	return at
}

// returned is where a return leads.
func returned(c api.Csrs, kind int) place {
	switch kind {
	case api.Mret:
		mode := [4]int{0, 1, 0, 3}[c.Mstatus>>11%4]
		c.Mstatus = set(c.Mstatus, 3, bit(c.Mstatus, 7))
		c.Mstatus = set(c.Mstatus, 7, true)
		c.Mstatus = set(set(c.Mstatus, 11, false), 12, false)
		c.Mstatus = set(c.Mstatus, 17, bit(c.Mstatus, 17) && mode == 3)
		return place{c, mode, c.Mepc}
	case api.Sret:
		mode := 0
		if bit(c.Mstatus, 8) {
			mode = 1
		}
		c.Mstatus = set(c.Mstatus, 1, bit(c.Mstatus, 5))
		c.Mstatus = set(c.Mstatus, 5, true)
		c.Mstatus = set(c.Mstatus, 8, false)
		c.Mstatus = set(c.Mstatus, 17, false)
		return place{c, mode, c.Sepc}
	}
	return place{c, 3, 0}
}

// isPending tells whether a bit is.
func isPending(c api.Csrs, n int, lines uint64) bool {
	line := (n == 3 || n == 7 || n == 9 || n == 11) && bit(lines, n)
	return (line || bit(c.Mip, n)) && bit(c.Mie, n)
}

// toldFirst is the interrupt that is to be taken; -1: none is.
func toldFirst(c api.Csrs, mode int, lines uint64) int {
	mode = known(mode)
	for _, delegated := range []bool{false, true} {
		may := mode < 3 || bit(c.Mstatus, 3)
		if delegated {
			may = mode == 0 || mode == 1 && bit(c.Mstatus, 1)
		}
		for _, n := range []int{11, 3, 7, 9, 1, 5} {
			if may && bit(c.Mideleg, n) == delegated && isPending(c, n, lines) {
				return n
			}
		}
	}
	return -1
}

// waiting tells whether no bit is pending.
func waiting(c api.Csrs, lines uint64) bool {
	for n := range 64 {
		if isPending(c, n, lines) {
			return false
		}
	}
	return true
}
