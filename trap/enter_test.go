package trap_test

import (
	"testing"

	"tandem/api"
	"tandem/trap"
)

// asTold holds Enter against the second reading.
func (x told) asTold(c api.Csrs, mode int, pc, cause, tval uint64) {
	x.t.Helper()
	x.enter(c, mode, pc, cause, tval, entered(c, mode, pc, cause, tval))
}

// P13.1: where a trap is taken: each cause, with each bit of the delegations alone and left out alone, in all modes.
func TestEnterByDelegation(t *testing.T) {
	for cause := range uint64(64) {
		for i := range 64 {
			for _, bits := range []uint64{1 << i, all - 1<<i} {
				has := bits>>cause%2 == 1
				for _, mode := range modes() {
					below := mode != api.Machine
					for _, x := range []struct {
						c     api.Csrs
						cause uint64
						inS   bool
					}{
						{api.Csrs{Medeleg: bits}, cause, has && below},
						{api.Csrs{Mideleg: bits}, cause, false},
						{api.Csrs{Medeleg: bits}, 1<<63 + cause, false},
						{api.Csrs{Mideleg: bits}, 1<<63 + cause, has && below},
					} {
						want := api.Machine
						if x.inS {
							want = api.Supervisor
						}
						if _, m, _ := trap.Enter(x.c, mode, 0, x.cause, 0); m != want {
							t.Fatalf("%#x, mode %d, cause %#x: in %d", x.c, mode, x.cause, m)
						}
						told{t}.asTold(x.c, mode, 4, x.cause, 5)
					}
				}
			}
		}
	}
}

// P13.1: of a greater cause the lowest 6 bits tell which bit of the delegations is asked, and it is kept whole.
func TestEnterOfGreatCauses(t *testing.T) {
	for i := 6; i < 63; i++ {
		cause := uint64(1)<<i + 9
		c := api.Csrs{Medeleg: 1 << 9, Stvec: 0x101}
		want := c
		want.Sepc, want.Scause, want.Stval = 6, cause, 7
		told{t}.enter(c, api.User, 7, cause, 7, place{want, api.Supervisor, 0x100})
		c = api.Csrs{Mideleg: 1 << 9, Stvec: 0x101}
		want = c
		want.Sepc, want.Scause, want.Stval = 6, 1<<63+cause, 7
		told{t}.enter(c, api.User, 7, 1<<63+cause, 7, place{want, api.Supervisor, 0x100 + 4*cause})
		c = api.Csrs{Medeleg: all - 1<<9, Mideleg: all - 1<<9, Mtvec: 0x201}
		want = c
		want.Mepc, want.Mcause, want.Mtval = 6, cause, 7
		told{t}.enter(c, api.User, 7, cause, 7, place{want, api.Machine, 0x200})
		want.Mcause += 1 << 63
		told{t}.enter(c, api.User, 7, 1<<63+cause, 7, place{want, api.Machine, 0x200 + 4*cause})
	}
}

// P13.1: the vectors: of both registers by their low bits, of traps and of interrupts, brought round.
func TestEnterOfVectors(t *testing.T) {
	for _, x := range []struct {
		t, cause, want uint64
	}{
		{0x1000, 2, 0x1000}, {0x1001, 2, 0x1000}, {0x1002, 2, 0x1000}, {0x1003, 2, 0x1000},
		{0x1000, 1<<63 + 5, 0x1000}, {0x1001, 1<<63 + 5, 0x1014}, {0x1002, 1<<63 + 5, 0x1000}, {0x1003, 1<<63 + 5, 0x1014},
		{0x1004, 1<<63 + 1, 0x1004}, {0x1005, 1<<63 + 1, 0x1008}, {0x1001, 1 << 63, 0x1000}, {0, 1<<63 + 11, 0}, {1, 1<<63 + 11, 44},
		{all, 1<<63 + 1, 0}, {all, 1<<63 + 3, 8}, {all, 3, all - 3}, {all - 1, 1<<63 + 3, all - 3}, {0x1001, 1<<63 + 63, 0x10fc},
	} {
		told{t}.vector(x.t, x.cause, x.want)
	}
	for i := range 64 {
		told{t}.vector(1<<i, 1<<63+7, led(1<<i, 1<<63+7))
		told{t}.vector(all-1<<i, 1<<63+7, led(all-1<<i, 1<<63+7))
	}
}

// vector lets a register of vectors be M's, with S's another one, and the other way round.
func (x told) vector(t, cause, want uint64) {
	x.t.Helper()
	if _, _, at := trap.Enter(api.Csrs{Mtvec: t, Stvec: ^t}, api.User, 0, cause, 0); at != want {
		x.t.Errorf("Mtvec %#x, cause %#x: %#x, not %#x", t, cause, at, want)
	}
	if _, _, at := trap.Enter(api.Csrs{Mtvec: ^t, Stvec: t, Medeleg: all, Mideleg: all}, api.User, 0, cause, 0); at != want {
		x.t.Errorf("Stvec %#x, cause %#x: %#x, not %#x", t, cause, at, want)
	}
}

// P13.1: what a trap in M leaves of Mstatus: MPP, MPIE and MIE by each mode.
func TestEnterOfStatusOfM(t *testing.T) {
	for _, x := range []struct {
		mode         int
		status, want uint64
	}{
		{api.Machine, 0, 0x1800}, {api.Machine, 0x8, 0x1880}, {api.Machine, 0x80, 0x1800}, {api.Machine, 0x88, 0x1880},
		{api.Supervisor, 0, 0x800}, {api.Supervisor, 0x8, 0x880}, {api.Supervisor, 0x1880, 0x800}, {api.Supervisor, 0x1808, 0x880},
		{api.User, 0, 0}, {api.User, 0x8, 0x80}, {api.User, 0x1888, 0x80}, {api.User, 0x1880, 0}, {api.User, all, all - 0x1808},
		{2, 0x1808, 0x80}, {7, 0x1808, 0x80}, {-1, 0x1808, 0x80}, {2, 0x8a00006008, 0x8a00006080},
	} {
		c := api.Csrs{Mstatus: x.status}
		told{t}.enter(c, x.mode, 8, 2, 3, place{api.Csrs{Mstatus: x.want, Mepc: 8, Mcause: 2, Mtval: 3}, api.Machine, 0})
	}
}

// P13.1: what a trap in S leaves of it: SPP, SPIE and SIE by each mode; nothing of M's.
func TestEnterOfStatusOfS(t *testing.T) {
	for _, x := range []struct {
		mode         int
		status, want uint64
	}{
		{api.Supervisor, 0, 0x100}, {api.Supervisor, 0x2, 0x120}, {api.Supervisor, 0x20, 0x100}, {api.Supervisor, 0x22, 0x120},
		{api.User, 0, 0}, {api.User, 0x2, 0x20}, {api.User, 0x122, 0x20}, {api.User, 0x120, 0}, {api.User, all, all - 0x102},
		{api.Supervisor, 0x1888, 0x1988}, {api.User, 0x188a, 0x18a8}, {api.Supervisor, 0x8000000a00006002, 0x8000000a00006120},
		{2, 0x122, 0x20}, {5, 0x122, 0x20}, {-1, 0x122, 0x20},
	} {
		c := api.Csrs{Mstatus: x.status, Medeleg: 4}
		told{t}.enter(c, x.mode, 8, 2, 3, place{api.Csrs{Mstatus: x.want, Medeleg: 4, Sepc: 8, Scause: 2, Stval: 3}, api.Supervisor, 0})
	}
}

// P13.1: each bit of Mstatus, alone and left out alone, in all modes, into M and into S.
func TestEnterOfEachStatusBit(t *testing.T) {
	for i := range 64 {
		for _, status := range []uint64{1 << i, all - 1<<i} {
			for _, mode := range modes() {
				told{t}.asTold(api.Csrs{Mstatus: status}, mode, 0, 2, 0)
				told{t}.asTold(api.Csrs{Mstatus: status, Medeleg: all}, mode, 0, 2, 0)
			}
		}
	}
}

// P13.1: each bit of the place, the cause and what is told of it, into M and into S; of the place bit 0 is cleared.
func TestEnterOfEachBit(t *testing.T) {
	for i := range 64 {
		v := uint64(1) << i
		for _, delegated := range []uint64{0, all} {
			c := api.Csrs{Medeleg: delegated, Mideleg: delegated}
			told{t}.asTold(c, api.User, v, 2, 0)
			told{t}.asTold(c, api.User, all-v, 2, 0)
			told{t}.asTold(c, api.User, 0, v, 0)
			told{t}.asTold(c, api.User, 0, all-v, 0)
			told{t}.asTold(c, api.User, 0, 2, v)
			told{t}.asTold(c, api.User, 0, 2, all-v)
		}
	}
	want := api.Csrs{Mepc: all - 1, Mcause: 2, Mtval: all}
	told{t}.enter(api.Csrs{}, api.User, all, 2, all, place{want, api.Machine, 0})
}

// P13.1: with anything in the registers.
func TestEnterOfManyRegisters(t *testing.T) {
	d := dice(1301)
	into := map[int]int{}
	for range 100000 {
		c, mode := d.registers(), d.mode()
		pc, cause, tval := d.number(), d.cause(), d.number()
		told{t}.asTold(c, mode, pc, cause, tval)
		_, m, _ := trap.Enter(c, mode, pc, cause, tval)
		into[m]++
		if t.Failed() {
			return
		}
	}
	if len(into) != 2 || into[api.Machine] < 1000 || into[api.Supervisor] < 1000 {
		t.Errorf("into the modes: %v", into)
	}
}
