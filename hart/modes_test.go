package hart_test

import (
	"testing"

	"tandem/api"
)

const (
	ecall  = 0x00000073
	ebreak = 0x00100073
	sret   = 0x10200073
	mret   = 0x30200073
	wfi    = 0x10500073
	sfence = 0x12628073 // of 5 and 6
	nop    = 0x00000013
)

// P16.3: calls have a cause by their mode.
func TestCalls(t *testing.T) {
	for mode, cause := range map[int]uint64{inU: api.CallUser, inS: api.CallSupervisor, inM: api.CallMachine} {
		w := bare().laid(ecall)
		w.mode = mode
		w.told(t).traps(ecall, cause, 0)
		w = bare().laid(nop, ebreak)
		w.mode = mode
		o := w.told(t)
		o.does(nop, api.Record{}, nil)
		o.traps(ebreak, api.Breakpoint, code+4)
		w = bare().laid(0x9002)
		w.mode = mode
		w.told(t).traps(0x9002, api.Breakpoint, code)
	}
}

// P16.3: where a trap leads, and what it leaves, told number by number.
func TestEnters(t *testing.T) {
	w := bare().laid(ecall)
	w.mode, w.status = inU, sie|mie|sum
	w.lay(0x302, 0x100)
	w.lay(0x105, base+0xd01)
	o := w.told(t)
	if r := o.h.Step(); r.Next != base+0xd00 || r.Mode != inU || r.Cause != 8 {
		t.Errorf("%+v", r)
	}
	s := o.h.State()
	if s.Mode != inS || s.PC != base+0xd00 || s.C.Sepc != code || s.C.Scause != 8 || s.C.Stval != 0 || s.C.Mstatus != 0xa00000000|spie|mie|mpie|sum {
		t.Errorf("%+v", s)
	}
	w = bare().laid(0xffffffff)
	w.mode, w.status = inS, sie|mie|sum
	o = w.told(t)
	if r := o.h.Step(); r.Next != base+0xc00 || r.Mode != inS || r.Cause != 2 || r.Tval != 0xffffffff {
		t.Errorf("%+v", r)
	}
	s = o.h.State()
	if s.Mode != inM || s.PC != base+0xc00 || s.C.Mepc != code || s.C.Mcause != 2 || s.C.Mtval != 0xffffffff || s.C.Mstatus != 0xa00000000|sie|mpie|sum|1<<11 {
		t.Errorf("%+v", s)
	}
}

// P16.3: who may come back from traps, wait and fence.
func TestWhoMay(t *testing.T) {
	for _, c := range []struct {
		bits   uint32
		mode   int
		status uint64
		ok     bool
	}{
		{mret, inU, 0, false}, {mret, inS, 0, false}, {mret, inM, 0, true}, {mret, inM, tsr | tw | tvm, true},
		{sret, inU, 0, false}, {sret, inU, tsr, false}, {sret, inS, 0, true}, {sret, inS, tsr, false}, {sret, inS, tw | tvm, true}, {sret, inM, tsr, true}, {sret, inM, 0, true},
		{wfi, inU, 0, false}, {wfi, inU, tw, false}, {wfi, inS, 0, true}, {wfi, inS, tw, false}, {wfi, inS, tsr | tvm, true}, {wfi, inM, tw, true}, {wfi, inM, 0, true},
		{sfence, inU, 0, false}, {sfence, inU, tvm, false}, {sfence, inS, 0, true}, {sfence, inS, tvm, false}, {sfence, inS, tsr | tw, true}, {sfence, inM, tvm, true}, {sfence, inM, 0, true},
	} {
		w := bare().laid(c.bits)
		w.mode, w.status = c.mode, c.status|mpp
		if c.mode == inS && c.bits == sret {
			w.status |= spp
		}
		w.lay(0x341, code)
		w.lay(0x141, code+8)
		o := w.told(t)
		if !c.ok {
			o.refused(c.bits)
			continue
		}
		switch c.bits {
		case mret:
			o.does(c.bits, api.Record{Next: code}, func(s *api.State) { s.C.Mstatus = s.C.Mstatus&^mpp | mpie })
		case sret:
			o.does(c.bits, api.Record{Next: code + 8}, func(s *api.State) {
				s.C.Mstatus, s.Mode = s.C.Mstatus&^spp|spie, inU
				if c.mode == inS {
					s.Mode = inS
				}
			})
		default:
			o.does(c.bits, api.Record{}, nil)
		}
	}
}

// P16.3: the way back, into each mode.
func TestComesBack(t *testing.T) {
	for _, c := range []struct {
		bits   uint32
		status uint64
		behind uint64
		mode   int
		from   int
		to     uint64
	}{
		{mret, mpie | mprv, mie | mpie, inU, 0x341, 0x80001001},
		{mret, mpie | 1<<11 | mprv, mie | mpie, inS, 0x341, 0x80002000},
		{mret, mie | mpp | mprv, mpie | mprv, inM, 0x341, 0x1234},
		{sret, spie | mprv | mie, sie | spie | mie, inU, 0x141, 0x80001001},
		{sret, spp | sie | mprv, spie, inS, 0x141, 1<<64 - 1},
	} {
		w := bare().laid(c.bits)
		w.status = c.status
		w.lay(c.from, c.to)
		o := w.told(t)
		o.does(c.bits, api.Record{Next: c.to &^ 1}, func(s *api.State) {
			s.C.Mstatus, s.Mode = 0xa00000000|c.behind, c.mode
		})
	}
}
