package hart_test

import (
	"bytes"
	"testing"

	"tandem/api"
	"tandem/decode"
	"tandem/hart"
	"tandem/squeeze"
)

// A log is what a hart was told to do, and told: in which cycle it took a step, or an interrupt.
type log struct {
	cycle     int64
	interrupt bool
	r         api.Record
	ok        bool
	s         api.State
}

// logged is what the hart of a setup does at random, for some steps.
func logged(o *dice, s api.Setup, steps int) []log {
	h := hart.New(s)
	h.Tick(0)
	var l []log
	cycle := int64(0)
	for range steps {
		n := log{interrupt: len(l) > 70 && o.one(4)}
		cycle += int64(o.below(3))
		h.Tick(cycle)
		n.cycle = cycle
		if n.interrupt {
			n.r, n.ok = h.Interrupt()
		} else {
			n.r = h.Step()
		}
		n.s = h.State()
		l = append(l, n)
	}
	return l
}

// again holds that another hart does the same, if its cycles begin one by one, and it is asked for all that it tells.
func again(t *testing.T, s api.Setup, l []log) {
	t.Helper()
	h := hart.New(s)
	for i, n := range l {
		for cycle := max(0, n.cycle-3); cycle <= n.cycle; cycle++ {
			h.Tick(cycle)
		}
		h.Bytes(data, 64)
		h.Waits()
		if !n.interrupt {
			if h.State(); n.r != h.Step() {
				t.Fatalf("step %d: another record than %+v", i, n.r)
			}
		} else if r, ok := h.Interrupt(); r != n.r || ok != n.ok {
			t.Fatalf("step %d: another interrupt than %+v", i, n.r)
		}
		if h.State() != n.s {
			t.Fatalf("step %d: %v", i, apart(h.State(), n.s))
		}
	}
}

// P16.6: what a hart does hangs on its setup and the cycles in which it steps; the seeds are nothing to it.
func TestHangsOnSetupAndCycles(t *testing.T) {
	o := dice(1606)
	for range 150 {
		s := o.world(t).setup(t)
		l := logged(&o, s, 160)
		s.Seeds = [3]uint64{o.next(), o.next(), o.next()}
		again(t, s, l)
	}
}

// P16.6: many harts at once don't touch one another.
func TestHartsByThemselves(t *testing.T) {
	o := dice(1607)
	var all []pair
	for range 12 {
		all = append(all, paired(t, o.world(t).setup(t)))
	}
	s := all[0]
	twin := pair{t, hart.New(bare().laid(nop, ecall).setup(t)), newBook(bare().laid(nop, ecall).setup(t))}
	all = append(all, s, twin)
	for n := range 2000 {
		p := pick(&o, all...)
		if o.one(3) {
			p.tick(int64(n / 50))
		}
		p.step()
	}
	for _, p := range all {
		p.memory()
	}
}

// P16.6: a trap leaves X, F and the memory alone; X[0] is 0, PC even, the mode one of the three, all the while.
func TestLeavesAlone(t *testing.T) {
	o := dice(1608)
	traps := 0
	for range 300 {
		h := hart.New(o.world(t).setup(t))
		h.Tick(0)
		m := h.Bytes(base, size)
		for n := range 130 {
			was := h.State()
			r := h.Step()
			if r.Kind == api.Done && r.Mem >= api.Write {
				m = h.Bytes(base, size)
			}
			if n > 70 && o.one(5) {
				now := h.State()
				if i, ok := h.Interrupt(); ok {
					r, was = i, now
				}
			}
			s := h.State()
			if r.Kind != api.Done {
				traps++
				if s.X != was.X || s.F != was.F || !bytes.Equal(h.Bytes(base, size), m) || s.C.Minstret != was.C.Minstret || s.C.Fcsr != was.C.Fcsr || s.Reserved != was.Reserved {
					t.Fatalf("%+v: %v", r, apart(s, was))
				}
			}
			if s.X[0] != 0 || s.PC%2 != 0 || s.Mode != inU && s.Mode != inS && s.Mode != inM {
				t.Fatalf("%+v", s)
			}
			if s.PC != r.Next {
				t.Fatalf("%+v leads to %x", r, s.PC)
			}
		}
	}
	if traps < 1000 {
		t.Errorf("%d traps", traps)
	}
}

// P16.6: a trap leaves devices alone: the UART's byte is still there behind all that can't read it.
func TestLeavesDevicesAlone(t *testing.T) {
	get := bitsOf(t, inst(api.Load, 1))
	reads, writes := accesses()
	for _, a := range append(reads, writes...) {
		if a.size == 1 {
			continue
		}
		bits := bitsOf(t, inst(a.kind, a.size))
		w := bare().laid(bits, get)
		w.x[5], w.x[6] = 0x10000000, 'z'
		w.events = []api.Event{{Kind: api.EventByte, V: 'a'}}
		w.lay(0x305, code+4)
		o := w.told(t)
		if r := o.h.Step(); r.Kind != api.Trap || r.Cause != api.ReadFault && r.Cause != api.WriteFault {
			t.Errorf("%+v: %+v", a, r)
		}
		o.does(get, api.Record{Reg: api.RegX, Rd: 4, Value: 'a', Mem: api.Read, Addr: 0x10000000, Size: 1}, nil)
	}
	// Nor is it read where FS is 0, or a page doesn't let it be.
	wide := bitsOf(t, inst(api.FLoad, 8))
	w := bare().laid(wide)
	w.status, w.x[5] = 0, 0x2004000
	w.told(t).refused(wide)
	p := paged().laid(get)
	p.x[5] = 0x7000
	p.put(tables+0x2000+8*7, to(0x10000000, v|x|a))
	p.told(t).traps(get, api.ReadPage, 0x7000)
}

// W8: what is encoded is what the record has as its bits, and what is done: each kind, as it is decoded.
func TestBitsThereAndBack(t *testing.T) {
	for k := 1; k < api.Kinds; k++ {
		for _, n := range []int{4, 8} {
			x := inst(k, n)
			bits := bitsOf(t, x)
			w := bare().laid(bits)
			w.x[5] = data
			r := w.told(t).h.Step()
			if back := decode.Decode(r.Bits); r.Bits != bits || back != x {
				t.Errorf("%+v: the record has %x, which is %+v", x, r.Bits, back)
			}
		}
	}
}

// P16.3, W8: a half does what the instruction does that it stands for, but for its length.
func TestHalves(t *testing.T) {
	w := bare()
	for n := 1; n < 32; n++ {
		w.x[n] = data + 0x100*uint64(n%8) + 8*uint64(n)
	}
	s := w.setup(t)
	way := len(w.prologue(t))
	come := func(bits uint32) *told {
		copy(s.Image[code-base:], row(bits))
		o := &told{t: t, h: hart.New(s)}
		o.to(0)
		for range way {
			o.h.Step()
		}
		return o
	}
	seen := 0
	for h := 0; h < 1<<16; h += 5 {
		bits, ok := squeeze.Expand(uint16(h))
		if h&3 == 3 {
			continue
		}
		short := come(uint32(h))
		if !ok {
			short.refused(uint32(h))
			continue
		}
		long := come(bits)
		a, b := short.h.Step(), long.h.Step()
		x := decode.Decode(bits)
		if a.Bits != uint32(h) || b.Bits != bits {
			t.Fatalf("%x: %+v", h, a)
		}
		is, want := short.h.State(), long.h.State()
		if b.Next == code+4 && x.Imm != 4 || x.Imm == 4 && a.Next == code+2 {
			b.Next, want.PC = code+2, code+2
		}
		if oneOf(x.Kind, []int{api.Jal, api.Jalr}) && x.Rd != 0 {
			b.Value, want.X[x.Rd] = code+2, code+2
		}
		b.Bits = a.Bits
		if a != b || is != want || !bytes.Equal(short.h.Bytes(data, 0x1000), long.h.Bytes(data, 0x1000)) {
			t.Fatalf("%x, as %x: %v, %v", h, bits, apart(a, b), apart(is, want))
		}
		seen++
	}
	if seen < 5000 {
		t.Errorf("%d halves", seen)
	}
}

// R1: whatever a setup has, all calls end.
func TestTotal(t *testing.T) {
	o := dice(1609)
	for range 400 {
		image := make([]byte, o.below(3000))
		for i := range image {
			image[i] = byte(o.next())
		}
		s := api.Setup{Image: image, PC: pick(&o, base+o.next()%3000, o.next(), base)}
		for range o.below(90) {
			s.Csrs = append(s.Csrs, api.Lay{Csr: pick(&o, o.register(), int(o.next())), Value: o.number()})
		}
		p := paired(t, s)
		for n := range 60 {
			if o.one(4) {
				p.tick(int64(n))
			}
			if o.one(4) {
				p.interrupt()
			}
			p.step()
		}
		p.memory()
		for range 20 {
			p.h.Bytes(pick(&o, o.number(), base+o.next()%api.RamSize), pick(&o, o.below(5000), int(o.number()), -o.below(9)))
		}
	}
}
