package hart_test

import (
	"testing"

	"tandem/api"
)

// wrote is a record of a register that was written, and read into 4.
func wrote(n int, read, behind uint64) api.Record {
	return api.Record{Reg: api.RegX, Rd: 4, Value: read, Csr: n + 1, CsrValue: behind}
}

// P16.3: what each of the instructions writes, by a register's number and by a number of its own.
func TestTurnsRegisters(t *testing.T) {
	const old = 0xf0f0f0f0f0f0f0f1
	for _, c := range []struct {
		kind     int
		v, write uint64
	}{
		{api.Csrrw, 0x123456789abcdef0, 0x123456789abcdef0}, {api.Csrrw, 0, 0}, {api.Csrrw, 31, 31}, {api.Csrrw, 9, 9},
		{api.Csrrs, 0x0f0f000000000003, 0xfffff0f0f0f0f0f3}, {api.Csrrs, 30, 0xf0f0f0f0f0f0f0ff}, {api.Csrrs, 1, old},
		{api.Csrrc, 0xffff000000000001, 0x0000f0f0f0f0f0f0}, {api.Csrrc, 31, 0xf0f0f0f0f0f0f0e0}, {api.Csrrc, 14, old},
	} {
		for _, rd := range []int{0, 4, 5} {
			bits := bitsOf(t, api.Inst{Kind: c.kind, Rd: rd, Rs1: 5, Csr: 0x343})
			w := bare().laid(bits)
			w.lay(0x343, old)
			w.x[5] = c.v
			want := api.Record{Csr: 0x344, CsrValue: c.write}
			if rd != 0 {
				want.Reg, want.Rd, want.Value = api.RegX, rd, old
			}
			w.told(t).does(bits, want, func(s *api.State) { s.C.Mtval = c.write })
			if c.v > 31 || c.v == 0 && c.kind != api.Csrrw {
				continue
			}
			bits = bitsOf(t, api.Inst{Kind: c.kind, Rd: rd, Imm: int64(c.v), UseImm: true, Csr: 0x343})
			w.laid(bits)
			w.told(t).does(bits, want, func(s *api.State) { s.C.Mtval = c.write })
		}
	}
}

// P16.3: Csrrs and Csrrc of the register 0, or of the number 0, write nothing; of a register that holds 0 they do.
func TestReadsRegisters(t *testing.T) {
	for _, k := range []int{api.Csrrs, api.Csrrc} {
		for _, x := range []api.Inst{{Kind: k, Rd: 4, Csr: 0x343}, {Kind: k, Rd: 4, Csr: 0x343, UseImm: true}} {
			bits := bitsOf(t, x)
			w := bare().laid(bits)
			w.lay(0x343, 77)
			w.told(t).sets(bits, 4, 77)
		}
		bits := bitsOf(t, api.Inst{Kind: k, Rd: 4, Rs1: 5, Csr: 0x343})
		w := bare().laid(bits)
		w.x[5] = 0
		w.lay(0x343, 77)
		w.told(t).does(bits, wrote(0x343, 77, 77), nil)
		// Of one that may only be read the one is done, and the other refused.
		reads, writes := bitsOf(t, api.Inst{Kind: k, Rd: 4, Csr: 0xf14}), bitsOf(t, api.Inst{Kind: k, Rd: 4, Rs1: 5, Csr: 0xf14})
		w = bare().laid(reads, writes)
		w.x[5] = 0
		o := w.told(t)
		o.sets(reads, 4, 0)
		o.refused(writes)
	}
	for _, x := range []api.Inst{{Kind: api.Csrrw, Csr: 0x343}, {Kind: api.Csrrw, Csr: 0x343, UseImm: true}} {
		bits := bitsOf(t, x)
		w := bare().laid(bits)
		w.lay(0x343, 77)
		w.told(t).does(bits, api.Record{Csr: 0x344}, func(s *api.State) { s.C.Mtval = 0 })
		x.Csr = 0xf14
		bits = bitsOf(t, x)
		bare().laid(bits).told(t).refused(bits)
	}
}

// P16.3: what is written is told as it is read behind the step, also where it is not what was to be written, or nothing.
func TestTellsWhatIsLeft(t *testing.T) {
	for _, c := range []struct {
		n               int
		v, read, behind uint64
		turn            func(s *api.State)
	}{
		{0x301, 5, 0x800000000014112d, 0x800000000014112d, nil},
		{0x30a, 5, 0, 0, nil},
		{0x3b9, 5, 0, 0, nil},
		{0xb1f, 5, 0, 0, nil},
		{0x105, 0xf3, base + 0xd00, 0xf1, func(s *api.State) { s.C.Stvec = 0xf1 }},
		{0x141, 0xf3, 0, 0xf2, func(s *api.State) { s.C.Sepc = 0xf2 }},
		{0x302, 1<<64 - 1, 0, 0xb3fe, func(s *api.State) { s.C.Medeleg = 0xb3fe }},
		{0x180, 9 << 60, 0, 0, nil},
		{0x180, 8<<60 | 7, 0, 8<<60 | 7, func(s *api.State) { s.C.Satp = 8<<60 | 7 }},
		{0x3a0, 0x9f, 0x1f << 56, 0x9f, func(s *api.State) { s.C.Pmpcfg[7], s.C.Pmpcfg[0] = 0, 0x9f }},
		{0x3b2, 1<<64 - 1, 0, 1<<54 - 1, func(s *api.State) { s.C.Pmpaddr[2] = 1<<54 - 1 }},
		{0x100, 0, 0x8000000200006000, 0x200000000, func(s *api.State) { s.C.Mstatus = 0xa00000000 }},
		{0x300, 0x1000, 0x8000000a00006000, 0xa00000000, func(s *api.State) { s.C.Mstatus = 0xa00000000 }},
		{0x001, 0xff, 0, 0x1f, func(s *api.State) { s.C.Fcsr = 0x1f }},
		{0x002, 0xff, 0, 7, func(s *api.State) { s.C.Fcsr = 0xe0 }},
		{0x003, 0xfff, 0, 0xff, func(s *api.State) { s.C.Fcsr = 0xff }},
		{0x304, 1<<64 - 1, 0, 0xaaa, func(s *api.State) { s.C.Mie = 0xaaa }},
		{0x104, 1<<64 - 1, 0, 0, nil},
		{0xb00, 999, 1, 999, func(s *api.State) { s.C.Mcycle = 999 }},
	} {
		bits := bitsOf(t, api.Inst{Kind: api.Csrrw, Rd: 4, Rs1: 5, Csr: c.n})
		one(t, bits, c.v, 0).does(bits, wrote(c.n, c.read, c.behind), c.turn)
	}
}

// P16.3: what FS is behind a write of it, and of Fcsr.
func TestWritesOfFloatsRegisters(t *testing.T) {
	for n, v := range map[int]uint64{1: 0, 2: 0, 3: 0} {
		for _, was := range []uint64{1 << 13, 2 << 13, 3 << 13} {
			bits := bitsOf(t, api.Inst{Kind: api.Csrrw, Rd: 4, Rs1: 5, Csr: n})
			w := bare().laid(bits)
			w.status, w.x[5] = was, v
			w.told(t).does(bits, wrote(n, 0, 0), func(s *api.State) { s.C.Mstatus |= fs | sd })
			bits = bitsOf(t, api.Inst{Kind: api.Csrrs, Rd: 4, Csr: n})
			w.laid(bits)
			w.told(t).sets(bits, 4, 0)
		}
		bits := bitsOf(t, api.Inst{Kind: api.Csrrs, Rd: 4, Csr: n})
		w := bare().laid(bits)
		w.status = 0
		w.told(t).refused(bits)
	}
}

// P16.3: registers that a mode may not touch, or that there aren't.
func TestRefusesRegisters(t *testing.T) {
	for _, c := range []struct {
		mode, n     int
		read, write bool
	}{
		{inU, 0x003, true, true}, {inU, 0x100, false, false}, {inU, 0x300, false, false}, {inU, 0xc00, false, false}, {inU, 0x105, false, false},
		{inS, 0x003, true, true}, {inS, 0x140, true, true}, {inS, 0x340, false, false}, {inS, 0x180, true, true}, {inS, 0xc01, false, false}, {inS, 0xb00, false, false},
		{inM, 0x340, true, true}, {inM, 0x140, true, true}, {inM, 0xc01, true, false}, {inM, 0xf11, true, false}, {inM, 0x7c0, false, false}, {inM, 0x200, false, false}, {inM, 0xfff, false, false}, {inM, 0, false, false}, {inM, 0x3a1, false, false},
	} {
		reads, writes := bitsOf(t, api.Inst{Kind: api.Csrrs, Csr: c.n}), bitsOf(t, api.Inst{Kind: api.Csrrw, Rs1: 0, Csr: c.n})
		w := bare().laid(reads)
		w.mode = c.mode
		if c.read {
			w.told(t).does(reads, api.Record{}, nil)
		} else {
			w.told(t).refused(reads)
		}
		w.laid(writes)
		if o := w.told(t); !c.write {
			o.refused(writes)
		} else if r := o.h.Step(); r.Kind != api.Done || r.Csr != c.n+1 || r.CsrValue != 0 {
			t.Errorf("%x in %d: %+v", c.n, c.mode, r)
		}
	}
}

// P16.3: satp in S with TVM, and counters below M.
func TestRefusesRegistersByOthers(t *testing.T) {
	reads := bitsOf(t, api.Inst{Kind: api.Csrrs, Rd: 4, Csr: 0x180})
	w := bare().laid(reads)
	w.mode, w.status = inS, tvm
	w.told(t).refused(reads)
	w.mode = inM
	w.told(t).sets(reads, 4, 0)
	for n, csr := range []int{0xc00, 0xc01, 0xc02} {
		for _, c := range []struct {
			mode int
			m, s uint64
			ok   bool
		}{{inS, 7, 0, true}, {inS, 7 &^ (1 << n), 7, false}, {inU, 7, 0, false}, {inU, 7, 1 << n, true}, {inU, 1 << n, 7 &^ (1 << n), false}, {inM, 0, 0, true}} {
			bits := bitsOf(t, api.Inst{Kind: api.Csrrs, Rd: 4, Csr: csr})
			w := bare().laid(bits)
			w.mode = c.mode
			w.lay(0x306, c.m)
			w.lay(0x106, c.s)
			o := w.told(t)
			o.to(99)
			if c.ok {
				o.sets(bits, 4, []uint64{100, 100, o.h.State().C.Minstret}[n])
			} else {
				o.refused(bits)
			}
		}
	}
}

// P16.3: lines are read, and told behind a write, but not written.
func TestLinesInRegisters(t *testing.T) {
	// The timer's line (bit 7) is up from the time 1 on; that of the PLIC's context 1 (bit 9) with the source 2, which is the third instruction's doing.
	const lines = 1<<7 | 1<<9
	for _, c := range []struct {
		kind        int
		n           int
		v           uint64
		held        uint64 // what Mip holds ahead
		deleg       uint64
		read, left  uint64 // what is read, and what Mip holds behind
		readsBehind uint64
	}{
		{api.Csrrs, 0x344, 2, 0, 0, lines, 2, lines | 2},
		{api.Csrrs, 0x344, 0x20, 2, 0, lines | 2, 0x22, lines | 0x22},
		{api.Csrrs, 0x344, 0, 2, 0, lines | 2, 2, lines | 2},
		{api.Csrrs, 0x344, 0x200, 2, 0, lines | 2, 0x202, lines | 2},
		{api.Csrrc, 0x344, 2, 0x22, 0, lines | 0x22, 0x20, lines | 0x20},
		{api.Csrrc, 0x344, 0x200, 0x202, 0, lines | 2, 2, lines | 2},
		{api.Csrrc, 0x344, 0x80, 0x202, 0, lines | 2, 0x202, lines | 2},
		{api.Csrrw, 0x344, 0x1ff, 0x20, 0, lines | 0x20, 0x22, lines | 0x22},
		{api.Csrrs, 0x144, 2, 0, 0x222, 0x200, 2, 0x202},
		{api.Csrrs, 0x144, 0x20, 0, 0x222, 0x200, 0, 0x200},
		{api.Csrrc, 0x144, 2, 0x22, 0x222, 0x222, 0x20, 0x220},
		{api.Csrrw, 0x144, 2, 0x20, 2, 0, 0x22, 2},
		{api.Csrrw, 0x144, 2, 0x20, 0x20, 0x20, 0x20, 0x20},
	} {
		alarm := bitsOf(t, api.Inst{Kind: api.Store, Rs1: 8, Rs2: 6, Size: 8})
		priority := bitsOf(t, api.Inst{Kind: api.Store, Rs1: 9, Rs2: 6, Size: 4})
		enable := bitsOf(t, api.Inst{Kind: api.Store, Rs1: 10, Rs2: 7, Size: 4})
		bits := bitsOf(t, api.Inst{Kind: c.kind, Rd: 4, Rs1: 5, Csr: c.n})
		w := bare().laid(alarm, priority, enable, bits)
		w.x[5], w.x[6], w.x[7], w.x[8], w.x[9], w.x[10] = c.v, 1, 4, 0x2004000, 0xc000008, 0xc002080
		w.events = []api.Event{{Cycle: 0, Kind: api.EventLine, N: 2, V: 1}}
		w.lay(0x344, c.held)
		w.lay(0x303, c.deleg)
		o := w.told(t)
		o.does(alarm, api.Record{Mem: api.Write, Addr: 0x2004000, Size: 8, Data: 1}, nil)
		o.does(priority, api.Record{Mem: api.Write, Addr: 0xc000008, Size: 4, Data: 1}, nil)
		o.does(enable, api.Record{Mem: api.Write, Addr: 0xc002080, Size: 4, Data: 4}, nil)
		o.does(bits, wrote(c.n, c.read, c.readsBehind), func(s *api.State) { s.C.Mip = c.left })
	}
}

// P16.3: what the time reads is the bus's, in the cycle of the step.
func TestReadsTheTime(t *testing.T) {
	bits, put := bitsOf(t, api.Inst{Kind: api.Csrrs, Rd: 4, Csr: 0xc01}), bitsOf(t, api.Inst{Kind: api.Store, Rs1: 5, Rs2: 6, Size: 8})
	w := bare().laid(bits, bits, put, bits, bits)
	w.x[5], w.x[6] = 0x200bff8, 1<<64-2
	o := w.told(t)
	o.sets(bits, 4, 1)
	o.to(50)
	o.sets(bits, 4, 51)
	o.does(put, api.Record{Mem: api.Write, Addr: 0x200bff8, Size: 8, Data: 1<<64 - 2}, nil)
	o.sets(bits, 4, 1<<64-2)
	o.to(53)
	o.sets(bits, 4, 1)
}
