package trap_test

import (
	"testing"

	"tandem/api"
	"tandem/csr"
	"tandem/trap"
)

// P13.5: Mret behind Enter into M leads back to the mode and the place, with MIE as it was; Sret behind Enter into S likewise with SIE.
func TestThereAndBack(t *testing.T) {
	d := dice(1307)
	for range 50000 {
		c, mode, pc := d.registers(), d.mode(), d.number()
		behind, into, _ := trap.Enter(c, mode, pc, d.cause(), d.number())
		kind, kept := api.Mret, 3
		if into == api.Supervisor {
			kind, kept = api.Sret, 1
		}
		back, m, at := trap.Return(behind, kind)
		if m != known(mode) || at != pc-pc%2 || bit(back.Mstatus, kept) != bit(c.Mstatus, kept) {
			t.Fatalf("%#x in %d at %#x: back in %d at %#x, %#x", c, mode, pc, m, at, back)
		}
	}
}

// P13.5: a trap in M within one in S, and back from both.
func TestNestedTraps(t *testing.T) {
	d := dice(1308)
	for range 20000 {
		c := d.written()
		c.Medeleg, c.Mideleg = 0x100, 0x20
		outer, mode, _ := trap.Enter(c, api.User, 0x100, api.CallUser, 0)
		inner, m, _ := trap.Enter(outer, mode, 0x200, api.Interrupt|api.TimerMachine, 0)
		if mode != api.Supervisor || m != api.Machine {
			t.Fatalf("in %d and %d", mode, m)
		}
		back, mode, at := trap.Return(inner, api.Mret)
		if mode != api.Supervisor || at != 0x200 || back.Mstatus>>3%2 != outer.Mstatus>>3%2 || back.Mstatus>>1%2 != outer.Mstatus>>1%2 {
			t.Fatalf("back in %d at %#x: %#x behind %#x", mode, at, back.Mstatus, outer.Mstatus)
		}
		back, mode, at = trap.Return(back, api.Sret)
		if mode != api.User || at != 0x100 || back.Mstatus>>3%2 != c.Mstatus>>3%2 || back.Mstatus>>1%2 != c.Mstatus>>1%2 {
			t.Fatalf("back in %d at %#x: %#x behind %#x", mode, at, back.Mstatus, c.Mstatus)
		}
	}
}

// P13.5: a hart that enters a trap in M has no interrupt to be taken; one in S has none that is delegated.
func TestNoInterruptBehindEnter(t *testing.T) {
	d := dice(1309)
	for range 50000 {
		c, lines := d.registers(), d.number()
		c.Mie = all
		behind, mode, _ := trap.Enter(c, d.mode(), d.number(), d.cause(), d.number())
		cause, ok := trap.Pending(behind, mode, lines)
		if mode == api.Machine && ok || ok && bit(c.Mideleg, int(cause%64)) {
			t.Fatalf("%#x, lines %#x: %#x is to be taken in %d", behind, lines, cause, mode)
		}
	}
}

// P13.5: a hart that waits has no interrupt to be taken, in any mode; one that has one doesn't wait.
func TestNoInterruptWhereItWaits(t *testing.T) {
	d := dice(1310)
	waited, interrupted := 0, 0
	for range 100000 {
		c, mode, lines := d.registers(), d.mode(), d.number()&d.number()
		c.Mie &= d.number() & d.number()
		waits := trap.Waits(c, lines)
		_, ok := trap.Pending(c, mode, lines)
		if waits && ok {
			t.Fatalf("%#x, mode %d, lines %#x: it waits, and has an interrupt", c, mode, lines)
		}
		if waits {
			waited++
		}
		if ok {
			interrupted++
		}
	}
	if waited < 1000 || interrupted < 1000 {
		t.Errorf("waited %d times, interrupted %d times", waited, interrupted)
	}
}

// P13.5: bits 63, 33 and 35 of Mstatus stay, as do all bits and registers that the promises don't name.
func TestAllElseStays(t *testing.T) {
	d := dice(1311)
	for range 50000 {
		c := d.registers()
		o, mode, _ := trap.Enter(c, d.mode(), d.number(), d.cause(), d.number())
		named := uint64(0x1888)
		if mode == api.Supervisor {
			named = 0x122
			o.Sepc, o.Scause, o.Stval = c.Sepc, c.Scause, c.Stval
		} else {
			o.Mepc, o.Mcause, o.Mtval = c.Mepc, c.Mcause, c.Mtval
		}
		told{t}.onlyStatus(c, o, named)
		o, _, _ = trap.Return(c, api.Mret)
		told{t}.onlyStatus(c, o, 0x21888)
		o, _, _ = trap.Return(c, api.Sret)
		told{t}.onlyStatus(c, o, 0x20122)
		if t.Failed() {
			return
		}
	}
}

// onlyStatus asks that nothing was turned but bits of Mstatus.
func (x told) onlyStatus(c, o api.Csrs, named uint64) {
	x.t.Helper()
	if (o.Mstatus^c.Mstatus)&^named != 0 {
		x.t.Errorf("Mstatus %#x behind %#x", o.Mstatus, c.Mstatus)
	}
	o.Mstatus = c.Mstatus
	if o != c {
		x.t.Errorf("%#x behind\n%#x", o, c)
	}
}

// P13.5: behind traps and returns the registers still hold what writes could have left.
func TestTrapsLeaveWhatWritesMay(t *testing.T) {
	d := dice(1312)
	for range 500 {
		c, mode, pc := d.written(), api.Machine, uint64(0)
		for range 40 {
			switch d.below(3) {
			case 0:
				c, mode, pc = trap.Return(c, api.Mret)
			case 1:
				c, mode, pc = trap.Return(c, api.Sret)
			default:
				c, mode, pc = trap.Enter(c, mode, pc, d.cause(), d.number())
			}
			for _, n := range []int{0x300, 0x341, 0x342, 0x343, 0x141, 0x142, 0x143} {
				if csr.Write(c, n, csr.Read(c, n, 0, 0)) != c {
					t.Fatalf("the register %#x of %#x isn't as a write leaves it", n, c)
				}
			}
			if pc%2 != 0 || mode != known(mode) {
				t.Fatalf("in %d at %#x", mode, pc)
			}
		}
	}
}

// R4: a call answers the same again, whatever was asked between.
func TestAnswersAgain(t *testing.T) {
	d := dice(1313)
	type answer struct {
		entered, left place
		cause         uint64
		ok, waits     bool
	}
	ask := func(c api.Csrs, mode int, v, cause uint64) (a answer) {
		a.entered.c, a.entered.mode, a.entered.pc = trap.Enter(c, mode, v, cause, v)
		a.left.c, a.left.mode, a.left.pc = trap.Return(c, api.Sret)
		a.cause, a.ok = trap.Pending(c, mode, v)
		a.waits = trap.Waits(c, v)
		return a
	}
	for range 5000 {
		c, mode, v, cause := d.registers(), d.mode(), d.number(), d.cause()
		first := ask(c, mode, v, cause)
		ask(d.registers(), d.mode(), d.number(), d.cause())
		if ask(c, mode, v, cause) != first {
			t.Fatalf("%#x, mode %d, %#x, cause %#x: another answer", c, mode, v, cause)
		}
	}
}
