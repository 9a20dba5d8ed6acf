package trap_test

import (
	"testing"

	"tandem/api"
	"tandem/trap"
)

// spread lets the lowest bits of a number stand at the interrupts' places.
func spread(v uint64) uint64 {
	sum := uint64(0)
	for i, n := range []int{1, 3, 5, 7, 9, 11} {
		sum = set(sum, n, bit(v, i))
	}
	return sum
}

// each goes through all that Mstatus, the mode and the delegations can tell of interrupts.
func each(check func(c api.Csrs, mode int)) {
	for bits := range uint64(1 << 6) {
		for _, status := range []uint64{0, 0x2, 0x8, 0xa, all - 0xa, all - 0x8, all - 0x2, all} {
			for _, mode := range []int{api.Machine, api.Supervisor, api.User, 2, -1} {
				check(api.Csrs{Mstatus: status, Mideleg: spread(bits)}, mode)
			}
		}
	}
}

// P13.3: all sets of interrupts that are up and enabled, of M's own and delegated ones, in all modes.
func TestPendingOfAllSets(t *testing.T) {
	each(func(c api.Csrs, mode int) {
		for bits := range uint64(1 << 6) {
			up := spread(bits)
			c.Mie, c.Mip = up, all
			told{t}.pending(c, mode, 0, toldFirst(c, mode, 0))
			c.Mie, c.Mip = all, up
			told{t}.pending(c, mode, 0, toldFirst(c, mode, 0))
			c.Mip = up & 0x222
			told{t}.pending(c, mode, up, toldFirst(c, mode, up))
		}
	})
}

// P13.3: who comes ahead of whom, two by two, both M's own, both delegated, or one of them.
func TestPendingOfTwo(t *testing.T) {
	order := []int{11, 3, 7, 9, 1, 5}
	for i, first := range order {
		for _, second := range order[i+1:] {
			one, other := uint64(1)<<first, uint64(1)<<second
			c := api.Csrs{Mie: all, Mip: one | other}
			told{t}.pending(c, api.User, 0, first)
			c.Mideleg = one | other
			told{t}.pending(c, api.User, 0, first)
			c.Mideleg = other
			told{t}.pending(c, api.User, 0, first)
			c.Mideleg = one
			told{t}.pending(c, api.User, 0, second)
			c.Mstatus = 0x2
			told{t}.pending(c, api.Supervisor, 0, second)
			c.Mie = one
			told{t}.pending(c, api.Supervisor, 0, first)
			c.Mstatus = 0x8
			told{t}.pending(c, api.Supervisor, 0, -1)
			told{t}.pending(c, api.Machine, 0, -1)
		}
	}
}

// P13.3: one interrupt, M's own or delegated, by the mode, MIE and SIE.
func TestPendingByMode(t *testing.T) {
	for _, n := range []int{1, 3, 5, 7, 9, 11} {
		for _, x := range []struct {
			mode          int
			status        uint64
			own, assigned bool
		}{
			{api.Machine, 0, false, false}, {api.Machine, 0x2, false, false}, {api.Machine, 0x8, true, false}, {api.Machine, 0xa, true, false},
			{api.Supervisor, 0, true, false}, {api.Supervisor, 0x2, true, true}, {api.Supervisor, 0x8, true, false}, {api.Supervisor, 0xa, true, true},
			{api.User, 0, true, true}, {api.User, 0x2, true, true}, {api.User, 0x8, true, true}, {api.User, 0xa, true, true},
			{2, 0, true, true}, {-1, 0, true, true}, {4, 0, true, true}, {1<<32 + 3, 0, true, true},
			{api.Machine, all - 0x8, false, false}, {api.Supervisor, all - 0x2, true, false},
		} {
			c := api.Csrs{Mstatus: x.status, Mie: 1 << n, Mip: 1 << n}
			told{t}.pending(c, x.mode, 0, orNone(n, x.own))
			c.Mideleg = 1 << n
			told{t}.pending(c, x.mode, 0, orNone(n, x.assigned))
			c.Mideleg = all - 1<<n
			told{t}.pending(c, x.mode, 0, orNone(n, x.own))
		}
	}
}

func orNone(n int, ok bool) int {
	if ok {
		return n
	}
	return -1
}

// P13.3, P13.4: each bit of Mip, of the lines and of Mie: of the lines bits 3, 7, 9 and 11 alone count; bits that are no interrupt's are not told, but pending.
func TestPendingOfEachBit(t *testing.T) {
	for i := range 64 {
		v := uint64(1) << i
		isOne := i == 1 || i == 3 || i == 5 || i == 7 || i == 9 || i == 11
		isLine := isOne && i != 1 && i != 5
		for _, delegated := range []uint64{0, v, all} {
			c := api.Csrs{Mideleg: delegated, Mip: v, Mie: v}
			told{t}.pending(c, api.User, 0, orNone(i, isOne))
			told{t}.waits(c, 0, false)
			c = api.Csrs{Mideleg: delegated, Mie: v}
			told{t}.pending(c, api.User, v, orNone(i, isLine))
			told{t}.waits(c, v, !isLine)
			told{t}.pending(c, api.User, all, orNone(i, isLine))
			told{t}.waits(c, all, !isLine)
			told{t}.pending(c, api.User, all-v, -1)
			told{t}.waits(c, all-v, true)
			c = api.Csrs{Mideleg: delegated, Mie: all - v, Mip: v}
			told{t}.pending(c, api.User, v, -1)
			told{t}.waits(c, v, true)
		}
	}
}

// P13.3, P13.4: with anything in the registers.
func TestPendingOfManyRegisters(t *testing.T) {
	d := dice(1305)
	found := map[uint64]int{}
	for range 100000 {
		c, mode, lines := d.registers(), d.mode(), d.number()
		if d.below(2) == 0 {
			c.Mie &= d.next() & d.next()
		}
		told{t}.pending(c, mode, lines, toldFirst(c, mode, lines))
		told{t}.waits(c, lines, waiting(c, lines))
		if t.Failed() {
			return
		}
		cause, _ := trap.Pending(c, mode, lines)
		found[cause]++
	}
	if len(found) != 7 {
		t.Errorf("told: %#x", found)
	}
}

// P13.4: whether a bit may interrupt is not asked, nor what else the registers hold.
func TestWaitsHangsOnPendingAlone(t *testing.T) {
	d := dice(1306)
	for bits := range uint64(1 << 6) {
		for other := range uint64(1 << 6) {
			up, enabled := spread(bits), spread(other)
			for range 3 {
				c := d.handMade()
				c.Mie, c.Mip = enabled, up
				told{t}.waits(c, 0, bits&other == 0)
				c.Mip = 0
				told{t}.waits(c, up, up&enabled&0xa88 == 0)
			}
		}
	}
	told{t}.waits(api.Csrs{}, all, true)
	told{t}.waits(api.Csrs{Mip: all}, all, true)
	told{t}.waits(api.Csrs{Mie: all}, 0, true)
	told{t}.waits(api.Csrs{Mie: 8, Mideleg: all}, 0x80, true)
}
