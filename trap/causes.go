package trap

import "tandem/api"

// lineBits are those of Mip that devices hold.
const lineBits = 1<<api.SoftMachine | 1<<api.TimerMachine | 1<<api.OuterMachine | 1<<api.OuterSupervisor

// The interrupts' numbers, the first one ahead of all others.
var order = [...]uint64{
	api.OuterMachine, api.SoftMachine, api.TimerMachine,
	api.OuterSupervisor, api.SoftSupervisor, api.TimerSupervisor,
}

// Where the ranks begin of those that are M's own, and of those that are delegated.
const (
	own       = 0
	delegated = len(order)
)

// The ranks have the causes of the interrupts that may be taken, each at its own, and 0 elsewhere.
type ranks [2 * len(order)]uint64

// lay lets interrupts, told by their bits, stand at their ranks, which begin at a place.
func (r *ranks) lay(begin int, bits uint64) {
	for i, n := range order {
		if bits>>n&1 != 0 {
			r[begin+i] = api.Interrupt | n
		}
	}
}

// first is the cause of the lowest rank; false: there is none.
func (r *ranks) first() (uint64, bool) {
	if *r == (ranks{}) {
		return 0, false
	}
	rank := 0
	for r[rank] == 0 {
		rank++
	}
	return r[rank], true
}

// pendingBits are those that are enabled and that the registers or the lines hold up.
func pendingBits(c *api.Csrs, lines uint64) uint64 {
	return (c.Mip | lines&lineBits) & c.Mie
}

// isInterrupt tells whether a cause is an interrupt's.
func isInterrupt(cause uint64) bool {
	return cause&api.Interrupt != 0
}

// isDelegated tells whether a cause is S's below M.
func isDelegated(c *api.Csrs, cause uint64) bool {
	delegations := c.Medeleg
	if isInterrupt(cause) {
		delegations = c.Mideleg
	}
	return delegations>>(cause%64)&1 != 0
}

// vector is where a cause leads by the register of vectors.
func vector(t, cause uint64) uint64 {
	at := t &^ 3
	if isInterrupt(cause) && t&1 != 0 {
		at += 4 * (cause &^ api.Interrupt)
	}
	return at
}
