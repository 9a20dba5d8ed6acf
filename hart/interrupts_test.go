package hart_test

import (
	"testing"

	"tandem/api"
	"tandem/hart"
)

// pends is a world in which an interrupt's bits are pending: of them 2, 0x20 and 0x200 by Mip.
func pends(mode int, status, bits, deleg uint64) *world {
	w := bare().laid(nop, nop, nop)
	w.mode, w.status = mode, status
	w.lay(0x304, bits)
	w.lay(0x344, bits)
	w.lay(0x303, deleg)
	return w
}

// P16.4: which one is taken, and whether one is, by the modes and what they let.
func TestTakes(t *testing.T) {
	for _, c := range []struct {
		mode        int
		status      uint64
		bits, deleg uint64
		cause       uint64 // 0: none
	}{
		{inM, mie, 2, 0, 1}, {inM, 0, 2, 0, 0}, {inM, sie, 2, 0, 0}, {inM, mie, 2, 2, 0}, {inM, mie | sie, 2, 2, 0},
		{inS, 0, 2, 0, 1}, {inS, 0, 2, 2, 0}, {inS, sie, 2, 2, 1}, {inS, mie, 2, 2, 0},
		{inU, 0, 2, 0, 1}, {inU, 0, 2, 2, 1}, {inU, mie | sie, 0x20, 0x20, 5},
		{inM, mie, 0x222, 0, 9}, {inM, mie, 0x22, 0, 1}, {inM, mie, 0x20, 0, 5}, {inM, mie, 0x222, 0x200, 1}, {inM, mie, 0x222, 0x202, 5},
		{inS, sie, 0x222, 0x222, 9}, {inS, sie, 0x222, 0x202, 5}, {inU, 0, 0x222, 0x200, 1}, {inS, 0, 0x222, 0x202, 5}, {inS, 0, 0, 0, 0}, {inM, mie, 0, 0, 0},
	} {
		o := pends(c.mode, c.status, c.bits, c.deleg).told(t)
		if c.cause == 0 {
			o.untaken()
		} else {
			o.taken(api.Interrupt | c.cause)
		}
		// A step takes none.
		pends(c.mode, c.status, c.bits, c.deleg).told(t).does(nop, api.Record{}, nil)
	}
}

// P16.4: an interrupt that is enabled but not pending, or pending but not enabled, is none.
func TestTakesNone(t *testing.T) {
	for _, c := range []struct{ enabled, pending uint64 }{{2, 0x20}, {0x220, 2}, {0, 0x222}, {0xaaa, 0}} {
		w := bare().laid(nop)
		w.status = mie
		w.lay(0x304, c.enabled)
		w.lay(0x344, c.pending)
		w.told(t).untaken()
	}
}

// P16.4: where it leads, and what it leaves, number by number.
func TestTakesTo(t *testing.T) {
	w := pends(inM, mie|fs, 2, 0)
	w.lay(0x305, base+0x41)
	o := w.told(t)
	o.to(6)
	if r, ok := o.h.Interrupt(); !ok || r != (api.Record{Cycle: 6, Kind: api.Taken, PC: code, Mode: inM, Cause: 1<<63 | 1, Next: base + 0x44}) {
		t.Errorf("%+v, %v", r, ok)
	}
	s := o.h.State()
	if s.PC != base+0x44 || s.Mode != inM || s.C.Mepc != code || s.C.Mcause != 1<<63|1 || s.C.Mtval != 0 || s.C.Mstatus != 0x8000000a00007880 {
		t.Errorf("%+v", s)
	}
	o.untaken()
	w = pends(inU, sie, 0x20, 0x20)
	w.lay(0x105, base+0x81)
	w.lay(0x143, 99)
	o = w.told(t)
	if r, ok := o.h.Interrupt(); !ok || r != (api.Record{Kind: api.Taken, PC: code, Mode: inU, Cause: 1<<63 | 5, Next: base + 0x94}) {
		t.Errorf("%+v, %v", r, ok)
	}
	s = o.h.State()
	if s.PC != base+0x94 || s.Mode != inS || s.C.Sepc != code || s.C.Scause != 1<<63|5 || s.C.Stval != 0 || s.C.Mstatus != 0xa00000000|spie|mpie {
		t.Errorf("%+v", s)
	}
	o.untaken()
}

// P16.4: the devices' lines count, as soon as they are up.
func TestTakesByLines(t *testing.T) {
	for _, c := range []struct {
		at, v uint64
		size  int
		bit   uint64
	}{{0x2000000, 1, 4, 3}, {0x2004000, 3, 8, 7}} {
		put := bitsOf(t, inst(api.Store, c.size))
		w := bare().laid(put, nop)
		w.status, w.x[5], w.x[6] = mie, c.at, c.v
		w.lay(0x304, 0xaaa)
		o := w.told(t)
		o.untaken()
		o.does(put, api.Record{Mem: api.Write, Addr: c.at, Size: c.size, Data: c.v}, nil)
		if c.bit == 7 {
			o.untaken()
			o.to(1)
			o.untaken()
			o.to(2)
		}
		o.taken(api.Interrupt | c.bit)
	}
	for ctx, bit := range []uint64{11, 9} {
		priority := bitsOf(t, api.Inst{Kind: api.Store, Rs1: 8, Rs2: 6, Size: 4})
		enable := bitsOf(t, api.Inst{Kind: api.Store, Rs1: 9, Rs2: 7, Size: 4})
		claim := bitsOf(t, inst(api.Load, 4))
		w := bare().laid(priority, enable, claim, nop)
		w.status = mie
		w.x[5], w.x[6], w.x[7], w.x[8], w.x[9] = 0xc200004+0x1000*uint64(ctx), 3, 4, 0xc000008, 0xc002000+0x80*uint64(ctx)
		w.lay(0x304, 0xaaa)
		w.events = []api.Event{{Cycle: 5, Kind: api.EventLine, N: 2, V: 1}}
		o := w.told(t)
		o.does(priority, api.Record{Mem: api.Write, Addr: w.x[8], Size: 4, Data: 3}, nil)
		o.does(enable, api.Record{Mem: api.Write, Addr: w.x[9], Size: 4, Data: 4}, nil)
		o.to(4)
		o.untaken()
		o.to(5)
		twin := w.told(t)
		twin.h.Step()
		twin.h.Step()
		twin.to(7)
		twin.taken(api.Interrupt | bit)
		o.does(claim, api.Record{Reg: api.RegX, Rd: 4, Value: 2, Mem: api.Read, Addr: w.x[5], Size: 4}, nil)
		o.untaken()
	}
}

// waiting is a hart that has just done a wfi.
func waiting(t *testing.T, w *world) *told {
	t.Helper()
	o := w.laid(wfi, nop, wfi).told(t)
	o.waits(false)
	o.does(wfi, api.Record{}, nil)
	return o
}

// P16.5: a hart waits behind a wfi that was done, as long as nothing is pending, until the next record.
func TestWaits(t *testing.T) {
	o := waiting(t, bare())
	o.waits(true)
	o.waits(true)
	o.untaken()
	o.waits(true)
	o.to(100)
	o.waits(true)
	o.does(nop, api.Record{}, nil)
	o.waits(false)
	o.does(wfi, api.Record{}, nil)
	o.waits(true)
	o.refused(0)
	o.waits(false)

	w := bare()
	w.mode = inS
	o = waiting(t, w)
	o.waits(true)
	o = bare().laid(nop).told(t)
	o.does(nop, api.Record{}, nil)
	o.waits(false)
}

// P16.5: what is pending ends the waiting, whether it may interrupt or not.
func TestWaitsNot(t *testing.T) {
	for _, c := range []struct {
		enabled, pending, deleg, status uint64
		want                            bool
	}{
		{2, 2, 0, 0, false}, {2, 2, 2, 0, false}, {2, 2, 0, mie, false}, {0x22, 0x200, 0, 0, true}, {0, 0x222, 0, mie, true}, {0xaaa, 0, 0, mie, true},
	} {
		w := bare()
		w.status = c.status
		w.lay(0x304, c.enabled)
		w.lay(0x344, c.pending)
		w.lay(0x303, c.deleg)
		waiting(t, w).waits(c.want)
	}
}

// P16.5: a line that comes up ends it, too; an interrupt that is taken is a record.
func TestWaitsForLines(t *testing.T) {
	for _, status := range []uint64{0, mie} {
		put := bitsOf(t, inst(api.Store, 8))
		w := bare().laid(put, wfi, nop)
		w.status, w.x[5], w.x[6] = status, 0x2004000, 10
		w.lay(0x304, 0x80)
		o := w.told(t)
		o.does(put, api.Record{Mem: api.Write, Addr: 0x2004000, Size: 8, Data: 10}, nil)
		o.does(wfi, api.Record{}, nil)
		o.waits(true)
		o.to(8)
		o.waits(true)
		o.untaken()
		o.to(9)
		o.waits(false)
		if status == 0 {
			o.untaken()
			o.does(nop, api.Record{}, nil)
		} else {
			o.taken(api.Interrupt | 7)
		}
		o.waits(false)
	}
}

// P16.5: a wfi that traps waits for nothing.
func TestWaitsNotBehindTraps(t *testing.T) {
	w := bare().laid(wfi)
	w.mode = inU
	o := w.told(t)
	o.refused(wfi)
	o.waits(false)
	w = bare().laid(wfi)
	w.mode, w.status = inS, tw
	o = w.told(t)
	o.refused(wfi)
	o.waits(false)
}

// P16.5: of a line that comes up and goes down again (the time comes round) an interrupt that was taken is left, and nothing else.
func TestWaitsBehindLines(t *testing.T) {
	for _, taken := range []bool{false, true} {
		put := bitsOf(t, inst(api.Store, 8))
		w := bare().laid(put, wfi, nop)
		w.status, w.x[5], w.x[6] = mie, 0x200bff8, 1<<64-3
		w.lay(0x304, 0x80)
		o := w.told(t)
		o.does(put, api.Record{Mem: api.Write, Addr: 0x200bff8, Size: 8, Data: 1<<64 - 3}, nil)
		o.does(wfi, api.Record{}, nil)
		o.to(1)
		o.waits(true)
		o.to(2)
		o.waits(false)
		if taken {
			o.taken(api.Interrupt | 7)
		}
		o.to(3)
		o.waits(!taken)
		o.untaken()
	}
}

// P16.5: bytes of the memory; those that aren't the RAM's are 0.
func TestBytes(t *testing.T) {
	image := make([]byte, api.RamSize)
	for n := range image {
		image[n] = byte(n*7+n>>8) | 1
	}
	h := hart.New(api.Setup{Image: image, Events: []api.Event{{Kind: api.EventByte, V: 'a'}}})
	h.Tick(0)
	for _, at := range []uint64{base - 9, base - 8, base - 1, base, base + 1, base + 7, base + 0xfff, base + 0x12345, base + api.RamSize - 9, base + api.RamSize - 8, base + api.RamSize - 1, base + api.RamSize, 0, 1<<64 - 5, 0x10000000, 0x2000000, 0xc000000, 0xc200004, 1<<32 + base} {
		for _, n := range []int{1, 2, 3, 7, 8, 9, 15, 16, 17, 31, 4096, 4099} {
			b := h.Bytes(at, n)
			if len(b) != n {
				t.Fatalf("Bytes(%#x, %d): %d of them", at, n, len(b))
			}
			for i, is := range b {
				want := byte(0)
				if far := at + uint64(i) - base; far < api.RamSize {
					want = image[far]
				}
				if is != want {
					t.Fatalf("Bytes(%#x, %d): %d is %d, not %d", at, n, i, is, want)
				}
			}
		}
	}
	if b := h.Bytes(base, api.RamSize); string(b) != string(image) {
		t.Error("not all bytes")
	}
	if b := h.Bytes(base-1, api.RamSize); b[0] != 0 || string(b[1:]) != string(image[:api.RamSize-1]) {
		t.Error("not all bytes but the last one")
	}
}

// P16.5: no bytes of wrong numbers.
func TestNoBytes(t *testing.T) {
	h := hart.New(api.Setup{Image: []byte{1}})
	for _, n := range []int{0, -1, -8, -1 << 63, api.RamSize + 1, 2 * api.RamSize, 1<<63 - 1, 1 << 32, 1<<32 + 1} {
		for _, at := range []uint64{0, base, 1<<64 - 1} {
			if b := h.Bytes(at, n); len(b) != 0 {
				t.Errorf("Bytes(%#x, %d): %d of them", at, n, len(b))
			}
		}
	}
}

// P16.5, R3: bytes are new memory, and devices aren't read for them.
func TestBytesAreNew(t *testing.T) {
	get := bitsOf(t, inst(api.Load, 1))
	w := bare().laid(get)
	w.x[5] = 0x10000000
	w.events = []api.Event{{Kind: api.EventByte, V: 'a'}}
	o := w.told(t)
	b, c := o.h.Bytes(data, 16), o.h.Bytes(data, 16)
	for i := range b[:cap(b)] {
		b[:cap(b)][i] = 0x55
	}
	if string(c) != string(o.h.Bytes(data, 16)) || string(c) != string(w.image[data-base:data-base+16]) {
		t.Error("bytes are shared")
	}
	for n := 1; n < 17; n++ {
		o.h.Bytes(0x10000000, n)
		o.h.Bytes(0x10000000-8, n)
	}
	o.does(get, api.Record{Reg: api.RegX, Rd: 4, Value: 'a', Mem: api.Read, Addr: 0x10000000, Size: 1}, nil)
}

// P16.5: a state is the hart's, and its own.
func TestStates(t *testing.T) {
	o := bare().laid(0x00500513, nop).told(t)
	s := o.h.State()
	s.X[10], s.PC, s.C.Mepc, s.F[1], s.C.Pmpaddr[0] = 99, 0, 99, 99, 99
	o.sets(0x00500513, 10, 5)
	if o.h.State() == s || o.h.State().X[10] != 5 {
		t.Error("it holds what was written to what it told")
	}
}
