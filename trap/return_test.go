package trap_test

import (
	"math"
	"testing"

	"tandem/api"
	"tandem/trap"
)

// P13.2: Mret by MPP, MPIE, MIE and MPRV; what is S's stays.
func TestReturnFromM(t *testing.T) {
	for _, x := range []struct {
		status uint64
		mode   int
		want   uint64
	}{
		{0, api.User, 0x80}, {0x800, api.Supervisor, 0x80}, {0x1000, api.User, 0x80}, {0x1800, api.Machine, 0x80},
		{0x80, api.User, 0x88}, {0x8, api.User, 0x80}, {0x88, api.User, 0x88}, {0x1808, api.Machine, 0x80}, {0x1880, api.Machine, 0x88},
		{0x20000, api.User, 0x80}, {0x20800, api.Supervisor, 0x80}, {0x21000, api.User, 0x80}, {0x21800, api.Machine, 0x20080},
		{0x922, api.Supervisor, 0x1a2}, {all, api.Machine, all - 0x1800}, {all - 0x80, api.Machine, all - 0x1808},
		{0x8000000a00007880, api.Machine, 0x8000000a00006088}, {0x7e71aa, api.User, 0x7c61aa},
	} {
		told{t}.back(api.Csrs{Mstatus: x.status, Mepc: 0x44, Sepc: 0x66}, api.Mret, place{api.Csrs{Mstatus: x.want, Mepc: 0x44, Sepc: 0x66}, x.mode, 0x44})
	}
}

// P13.2: Sret by SPP, SPIE, SIE and MPRV; what is M's own stays.
func TestReturnFromS(t *testing.T) {
	for _, x := range []struct {
		status uint64
		mode   int
		want   uint64
	}{
		{0, api.User, 0x20}, {0x100, api.Supervisor, 0x20}, {0x20, api.User, 0x22}, {0x2, api.User, 0x20}, {0x22, api.User, 0x22},
		{0x102, api.Supervisor, 0x20}, {0x120, api.Supervisor, 0x22}, {0x20000, api.User, 0x20}, {0x20100, api.Supervisor, 0x20},
		{0x1888, api.User, 0x18a8}, {0x1988, api.Supervisor, 0x18a8}, {0x1000, api.User, 0x1020},
		{all, api.Supervisor, all - 0x20100}, {all - 0x20, api.Supervisor, all - 0x20102}, {0x8000000a00006120, api.Supervisor, 0x8000000a00006022},
	} {
		told{t}.back(api.Csrs{Mstatus: x.status, Mepc: 0x44, Sepc: 0x66}, api.Sret, place{api.Csrs{Mstatus: x.want, Mepc: 0x44, Sepc: 0x66}, x.mode, 0x66})
	}
}

// P13.2: each bit of Mstatus and of the places, alone and left out alone, also of places that no trap leaves.
func TestReturnOfEachBit(t *testing.T) {
	for i := range 64 {
		for _, v := range []uint64{1 << i, all - 1<<i} {
			for _, kind := range []int{api.Mret, api.Sret, api.Wfi} {
				for _, c := range []api.Csrs{{Mstatus: v}, {Mepc: v, Sepc: 2}, {Mepc: 2, Sepc: v}} {
					told{t}.back(c, kind, returned(c, kind))
				}
			}
		}
	}
}

// P13.2: any other kind leads nowhere, and changes nothing.
func TestReturnOfOtherKinds(t *testing.T) {
	d := dice(1302)
	kinds := []int{math.MinInt, math.MaxInt, math.MinInt + api.Mret, 1<<8 + api.Mret, 1<<32 + api.Mret, 1<<32 + api.Sret, -api.Mret, -api.Sret, ^api.Mret, ^api.Sret}
	for kind := -100; kind < 200; kind++ {
		kinds = append(kinds, kind)
	}
	for _, c := range []api.Csrs{{}, {Mstatus: all, Mepc: 4, Sepc: 8}, d.handMade(), d.written()} {
		for _, kind := range kinds {
			if kind != api.Mret && kind != api.Sret {
				told{t}.back(c, kind, place{c, api.Machine, 0})
			}
		}
	}
}

// P13.2: with anything in the registers.
func TestReturnOfManyRegisters(t *testing.T) {
	d := dice(1303)
	for range 50000 {
		c := d.registers()
		for _, kind := range []int{api.Mret, api.Sret, int(d.below(api.Kinds))} {
			told{t}.back(c, kind, returned(c, kind))
		}
		if t.Failed() {
			return
		}
	}
}

// P13.2: the mode is one of the three, whatever there is.
func TestReturnIntoModes(t *testing.T) {
	d := dice(1304)
	into := map[[2]int]int{}
	for range 5000 {
		c := d.handMade()
		for _, kind := range []int{api.Mret, api.Sret} {
			_, mode, _ := trap.Return(c, kind)
			into[[2]int{kind, mode}]++
		}
	}
	if len(into) != 5 || into[[2]int{api.Mret, 2}] != 0 || into[[2]int{api.Sret, 3}] != 0 {
		t.Errorf("into the modes: %v", into)
	}
}
