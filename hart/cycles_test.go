package hart_test

import (
	"math"
	"testing"

	"tandem/api"
	"tandem/hart"
)

// P16.2: all cycles up to one begin, one by one; none that has begun.
func TestTicks(t *testing.T) {
	time := bitsOf(t, api.Inst{Kind: api.Csrrs, Rd: 4, Csr: 0xc01})
	jump := bitsOf(t, api.Inst{Kind: api.Jal, Imm: -4})
	h := hart.New(api.Setup{Image: row(time, jump), PC: base})
	now := int64(-1)
	for _, to := range []int64{-1, -2, math.MinInt64, 0, 0, 1, 0, -5, 3, 3, 100, 99, 5000} {
		h.Tick(to)
		now = max(now, to)
		if r := h.Step(); r.Cycle != now || r.Value != uint64(now)+1 {
			t.Errorf("up to %d: %+v", to, r)
		}
		h.Step()
		if s := h.State(); s.C.Mcycle != uint64(now)+1 {
			t.Errorf("up to %d: Mcycle is %d", to, s.C.Mcycle)
		}
	}
}

// P16.2: Mcycle goes on from where it was laid or written, by bit 0 of Mcountinhibit alone, and comes round.
func TestCountsCycles(t *testing.T) {
	for inhibit := range uint64(8) {
		for _, begin := range []uint64{0, 5, 1<<64 - 2} {
			h := hart.New(api.Setup{PC: base, Csrs: []api.Lay{{Csr: 0xb00, Value: begin}, {Csr: 0x320, Value: inhibit}}})
			for _, to := range []int64{0, 3, 3, 77} {
				h.Tick(to)
				want := begin
				if inhibit&1 == 0 {
					want += uint64(to) + 1
				}
				if s := h.State(); s.C.Mcycle != want || s.C.Minstret != 0 {
					t.Errorf("Mcountinhibit %d, cycle %d: Mcycle %d, not %d", inhibit, to, s.C.Mcycle, want)
				}
			}
		}
	}
}

// P16.2: what is written to Mcycle and Mcountinhibit counts from the next cycle on.
func TestWritesMcycle(t *testing.T) {
	put, stop := bitsOf(t, api.Inst{Kind: api.Csrrw, Rd: 4, Rs1: 5, Csr: 0xb00}), bitsOf(t, api.Inst{Kind: api.Csrrw, Imm: 1, UseImm: true, Csr: 0x320})
	goOn := bitsOf(t, api.Inst{Kind: api.Csrrw, Csr: 0x320})
	w := bare().laid(put, stop, goOn)
	w.x[5] = 500
	o := w.told(t)
	o.to(9)
	o.does(put, wrote(0xb00, 10, 500), func(s *api.State) { s.C.Mcycle = 500 })
	o.to(11)
	o.does(stop, api.Record{Csr: 0x321, CsrValue: 1}, func(s *api.State) { s.C.Mcountinhibit = 1 })
	o.to(20)
	o.does(goOn, api.Record{Csr: 0x321}, func(s *api.State) { s.C.Mcountinhibit = 0 })
	if c := o.h.State().C.Mcycle; c != 502 {
		t.Errorf("Mcycle is %d", c)
	}
	o.to(21)
	if c := o.h.State().C.Mcycle; c != 503 {
		t.Errorf("Mcycle is %d", c)
	}
}

// P16.2: nothing but Mcycle is turned by a cycle without inputs; inputs come in theirs.
func TestTicksTurnNothingElse(t *testing.T) {
	w := bare().laid(nop)
	w.events = []api.Event{{Cycle: 5, Kind: api.EventLine, N: 2, V: 1}, {Cycle: 7, Kind: api.EventByte, V: 'a'}}
	o := w.told(t)
	for cycle := range int64(12) {
		s, m := o.h.State(), o.memory()
		if cycle > 0 {
			s.C.Mcycle++
		}
		o.to(cycle)
		o.holds(s, m)
	}
	get, waiting := bitsOf(t, inst(api.Load, 1)), bitsOf(t, api.Inst{Kind: api.Load, Rd: 4, Rs1: 6, Size: 4})
	for cycle, want := range []uint64{4: 0x60, 5: 0x60, 6: 0x60, 7: 0x61, 8: 0x61} {
		if want == 0 {
			continue
		}
		w.laid(get, waiting)
		w.x[5], w.x[6] = 0x10000005, 0xc001000
		o := w.told(t)
		o.to(int64(cycle))
		o.does(get, api.Record{Reg: api.RegX, Rd: 4, Value: want, Mem: api.Read, Addr: 0x10000005, Size: 1}, nil)
		up := uint64(0)
		if cycle >= 5 {
			up = 4
		}
		o.does(waiting, api.Record{Reg: api.RegX, Rd: 4, Value: up, Mem: api.Read, Addr: 0xc001000, Size: 4}, nil)
	}
}

// P16.3: Minstret is one more behind what is done, but not behind traps, interrupts and failed ones.
func TestCountsInstructions(t *testing.T) {
	for inhibit := range uint64(8) {
		for _, begin := range []uint64{0, 1<<64 - 1} {
			h := hart.New(api.Setup{Image: row(nop, 0x0001, wfi, ecall), PC: base, Csrs: []api.Lay{{Csr: 0xb02, Value: begin}, {Csr: 0x320, Value: inhibit}, {Csr: 0x304, Value: 2}, {Csr: 0x344, Value: 2}, {Csr: 0x300, Value: mie}}})
			h.Tick(0)
			for step, more := range []uint64{1, 2, 3, 3, 3, 3} {
				if step == 5 {
					h.Interrupt()
				} else {
					h.Step()
				}
				if inhibit&4 != 0 {
					more = 0
				}
				if s := h.State(); s.C.Minstret != begin+more {
					t.Errorf("Mcountinhibit %d: Minstret is %d behind %d steps", inhibit, s.C.Minstret, step+1)
				}
			}
		}
	}
}

// P16.3: what is written to Minstret stands there behind the step; by a write of nothing it goes on.
func TestWritesMinstret(t *testing.T) {
	for _, c := range []struct {
		x      api.Inst
		v      uint64
		writes bool
	}{
		{api.Inst{Kind: api.Csrrw, Rd: 4, Rs1: 5}, 500, true}, {api.Inst{Kind: api.Csrrw, Rd: 4, Imm: 7, UseImm: true}, 7, true}, {api.Inst{Kind: api.Csrrw, Rd: 4}, 0, true},
		{api.Inst{Kind: api.Csrrs, Rd: 4, Rs1: 5}, 0x1f4 | 0x800, true}, {api.Inst{Kind: api.Csrrc, Rd: 4, Rs1: 5}, 0x800 &^ 0x1f4, true},
		{api.Inst{Kind: api.Csrrs, Rd: 4}, 0, false}, {api.Inst{Kind: api.Csrrc, Rd: 4, UseImm: true}, 0, false},
	} {
		c.x.Csr = 0xb02
		bits := bitsOf(t, c.x)
		for _, inhibit := range []uint64{0, 4} {
			w := bare().laid(bits, nop)
			w.x[5] = 500
			w.lay(0xb02, 0x800)
			w.lay(0x320, 4)
			o := w.told(t)
			if inhibit == 0 {
				w.laid(bitsOf(t, api.Inst{Kind: api.Csrrw, Csr: 0x320}), bits, nop)
				o = w.told(t)
				if r := o.h.Step(); r.Csr != 0x321 || o.h.State().C.Minstret != 0x800 {
					t.Errorf("%+v, Minstret %x", r, o.h.State().C.Minstret)
				}
			}
			stays := func(s *api.State) {
				if inhibit != 0 {
					s.C.Minstret--
				}
			}
			if c.writes {
				o.does(bits, wrote(0xb02, 0x800, c.v), func(s *api.State) { s.C.Minstret = c.v })
			} else {
				o.does(bits, api.Record{Reg: api.RegX, Rd: 4, Value: 0x800}, stays)
			}
			o.does(nop, api.Record{}, stays)
		}
	}
}

// P16.3: Mcountinhibit counts as it was ahead of the step.
func TestCountsByMcountinhibitAhead(t *testing.T) {
	stop, goOn := bitsOf(t, api.Inst{Kind: api.Csrrw, Imm: 5, UseImm: true, Csr: 0x320}), bitsOf(t, api.Inst{Kind: api.Csrrw, Csr: 0x320})
	read := bitsOf(t, api.Inst{Kind: api.Csrrs, Rd: 4, Csr: 0xb02})
	w := bare().laid(stop, read, goOn, read, read)
	w.lay(0xb02, 1000-uint64(len(w.prologue(t))))
	o := w.told(t)
	o.does(stop, api.Record{Csr: 0x321, CsrValue: 5}, func(s *api.State) { s.C.Mcountinhibit = 5 })
	o.does(read, api.Record{Reg: api.RegX, Rd: 4, Value: 1001}, func(s *api.State) { s.C.Minstret = 1001 })
	o.does(goOn, api.Record{Csr: 0x321}, func(s *api.State) { s.C.Mcountinhibit, s.C.Minstret = 0, 1001 })
	o.sets(read, 4, 1001)
	o.sets(read, 4, 1002)
}

// P16.3: a step ahead of the first cycle is in the cycle -1.
func TestStepsAheadOfAll(t *testing.T) {
	h := hart.New(api.Setup{Image: row(0x00500513, 0), PC: base})
	(&told{t: t, h: h, cycle: -1}).sets(0x00500513, 10, 5)
	(&told{t: t, h: h, cycle: -1}).refused(0)
}
