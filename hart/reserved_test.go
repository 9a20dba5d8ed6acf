package hart_test

import (
	"testing"

	"tandem/api"
)

// reserves is the record of an lr of 5 into 4.
func reserves(at uint64, n int, v uint64) api.Record {
	return api.Record{Reg: api.RegX, Rd: 4, Value: v, Mem: api.Read, Addr: at, Size: n}
}

// reserved is what it leaves.
func reserved(at uint64, n int) func(*api.State) {
	return func(s *api.State) { s.Reserved, s.Address, s.Size = true, at, n }
}

// unreserved is what an sc leaves.
func unreserved(s *api.State) {
	s.Reserved, s.Address, s.Size = false, 0, 0
}

// stored and missed are the records of an sc of 6 at 5 into 4.
func stored(at uint64, n int, v uint64) api.Record {
	return api.Record{Reg: api.RegX, Rd: 4, Mem: api.Write, Addr: at, Size: n, Data: v}
}

func missed() api.Record {
	return api.Record{Reg: api.RegX, Rd: 4, Value: 1}
}

// lrsc is a hart that comes to some instructions, with 5 leading to data.
func lrsc(t *testing.T, l ...uint32) *told {
	t.Helper()
	w := bare().laid(l...)
	w.put(data+0x100, 0x81828384f5868788)
	w.x[5], w.x[6], w.x[8], w.x[9] = data+0x100, 0x1122334455667788, data+0x104, data+0x108
	return w.told(t)
}

// P16.3: lr reads and reserves, sc writes once.
func TestReserves(t *testing.T) {
	for n, c := range map[int]struct{ read, write uint64 }{4: {0xfffffffff5868788, 0x55667788}, 8: {0x81828384f5868788, 0x1122334455667788}} {
		lr, sc := bitsOf(t, inst(api.Lr, n)), bitsOf(t, inst(api.Sc, n))
		o := lrsc(t, lr, sc, sc)
		o.does(lr, reserves(data+0x100, n, c.read), reserved(data+0x100, n))
		o.does(sc, stored(data+0x100, n, c.write), unreserved)
		o.does(sc, missed(), unreserved)
		o = lrsc(t, lr&^0xf80, sc&^0xf80)
		o.does(lr&^0xf80, api.Record{Mem: api.Read, Addr: data + 0x100, Size: n}, reserved(data+0x100, n))
		o.does(sc&^0xf80, api.Record{Mem: api.Write, Addr: data + 0x100, Size: n, Data: c.write}, unreserved)
		o = lrsc(t, sc&^0xf80, sc)
		o.does(sc&^0xf80, api.Record{}, unreserved)
		o.does(sc, missed(), unreserved)
	}
}

// P16.3: the registers that are read may be set, too.
func TestReservesOwnRegisters(t *testing.T) {
	lr := bitsOf(t, api.Inst{Kind: api.Lr, Rd: 5, Rs1: 5, Size: 8})
	o := lrsc(t, lr)
	o.does(lr, api.Record{Reg: api.RegX, Rd: 5, Value: 0x81828384f5868788, Mem: api.Read, Addr: data + 0x100, Size: 8}, reserved(data+0x100, 8))
	for _, rd := range []int{5, 6} {
		lr, sc := bitsOf(t, inst(api.Lr, 8)), bitsOf(t, api.Inst{Kind: api.Sc, Rd: rd, Rs1: 5, Rs2: 6, Size: 8})
		o = lrsc(t, lr, sc)
		o.does(lr, reserves(data+0x100, 8, 0x81828384f5868788), reserved(data+0x100, 8))
		want := stored(data+0x100, 8, 0x1122334455667788)
		want.Rd = rd
		o.does(sc, want, unreserved)
	}
}

// P16.3: of another size or place nothing is written, and the reservation goes.
func TestReservesOtherwise(t *testing.T) {
	w8, w4 := bitsOf(t, inst(api.Lr, 8)), bitsOf(t, inst(api.Lr, 4))
	s8, s4 := bitsOf(t, inst(api.Sc, 8)), bitsOf(t, inst(api.Sc, 4))
	by := func(rs1, n int) uint32 {
		return bitsOf(t, api.Inst{Kind: api.Sc, Rd: 4, Rs1: rs1, Rs2: 6, Size: n})
	}
	o := lrsc(t, w8, s4, s8)
	o.does(w8, reserves(data+0x100, 8, 0x81828384f5868788), reserved(data+0x100, 8))
	o.does(s4, missed(), unreserved)
	o.does(s8, missed(), unreserved)
	o = lrsc(t, w4, s8, s4)
	o.does(w4, reserves(data+0x100, 4, 0xfffffffff5868788), reserved(data+0x100, 4))
	o.does(s8, missed(), unreserved)
	o.does(s4, missed(), unreserved)
	o = lrsc(t, w4, by(8, 4), s4)
	o.does(w4, reserves(data+0x100, 4, 0xfffffffff5868788), reserved(data+0x100, 4))
	o.does(by(8, 4), missed(), unreserved)
	o.does(s4, missed(), unreserved)
	o = lrsc(t, w8, by(9, 8), s8)
	o.does(w8, reserves(data+0x100, 8, 0x81828384f5868788), reserved(data+0x100, 8))
	o.does(by(9, 8), missed(), unreserved)
	o.does(s8, missed(), unreserved)
}

// P16.3: another lr reserves instead.
func TestReservesAnew(t *testing.T) {
	w8, s8 := bitsOf(t, inst(api.Lr, 8)), bitsOf(t, inst(api.Sc, 8))
	other := bitsOf(t, api.Inst{Kind: api.Lr, Rd: 4, Rs1: 8, Size: 4})
	to := bitsOf(t, api.Inst{Kind: api.Sc, Rd: 4, Rs1: 8, Rs2: 6, Size: 4})
	o := lrsc(t, w8, other, s8, w8, other, to)
	o.does(w8, reserves(data+0x100, 8, 0x81828384f5868788), reserved(data+0x100, 8))
	o.does(other, reserves(data+0x104, 4, 0xffffffff81828384), reserved(data+0x104, 4))
	o.does(s8, missed(), unreserved)
	o.does(w8, reserves(data+0x100, 8, 0x81828384f5868788), reserved(data+0x100, 8))
	o.does(other, reserves(data+0x104, 4, 0xffffffff81828384), reserved(data+0x104, 4))
	o.does(to, stored(data+0x104, 4, 0x55667788), unreserved)
}

// P16.3: a reservation outlasts stores, atomic operations, traps, interrupts and returns: only an sc that is done ends it.
func TestReservesAcross(t *testing.T) {
	lr, sc := bitsOf(t, inst(api.Lr, 8)), bitsOf(t, inst(api.Sc, 8))
	put, swap := bitsOf(t, inst(api.Store, 8)), bitsOf(t, inst(api.AmoSwap, 8))
	odd := bitsOf(t, api.Inst{Kind: api.Sc, Rd: 4, Rs1: 10, Rs2: 6, Size: 8})
	far := bitsOf(t, api.Inst{Kind: api.Sc, Rd: 4, Rs1: 11, Rs2: 6, Size: 8})
	for _, c := range []struct {
		bits uint32
		then func(o *told, bits uint32)
	}{
		{put, func(o *told, bits uint32) {
			o.does(bits, api.Record{Mem: api.Write, Addr: data, Size: 8, Data: 99}, nil)
		}},
		{swap, func(o *told, bits uint32) {
			o.does(bits, api.Record{Reg: api.RegX, Rd: 4, Value: 7, Mem: api.Atomic, Addr: data, Size: 8, Data: 99}, nil)
		}},
		{0x00000073, func(o *told, bits uint32) { o.traps(bits, api.CallMachine, 0) }},
		{odd, func(o *told, bits uint32) { o.traps(bits, api.WriteMisaligned, data+1) }},
		{far, func(o *told, bits uint32) { o.traps(bits, api.WriteFault, 0x2004000) }},
		{0x30200073, func(o *told, bits uint32) {
			o.does(bits, api.Record{Next: code + 8}, func(s *api.State) { s.C.Mstatus = s.C.Mstatus&^(mie|mpp) | mpie })
		}},
		{0x00000013, func(o *told, bits uint32) { o.taken(api.Interrupt | 1) }},
		{0x12000073, func(o *told, bits uint32) { o.does(bits, api.Record{}, nil) }},
	} {
		w := bare().laid(lr, c.bits, sc)
		w.status |= mpp | mie
		w.x[5], w.x[6], w.x[10], w.x[11] = data, 99, data+1, 0x2004000
		w.put(data, 7)
		w.lay(0x305, code+8)
		w.lay(0x304, 2)
		w.lay(0x344, 2)
		w.lay(0x341, code+8)
		o := w.told(t)
		o.does(lr, reserves(data, 8, 7), reserved(data, 8))
		c.then(o, c.bits)
		o.does(sc, stored(data, 8, 99), unreserved)
	}
}

// P16.3: the reservation is of the physical address.
func TestReservesPhysically(t *testing.T) {
	lr, sc := bitsOf(t, inst(api.Lr, 8)), bitsOf(t, api.Inst{Kind: api.Sc, Rd: 4, Rs1: 8, Rs2: 6, Size: 8})
	w := paged().laid(lr, sc, lr, sc)
	w.x[5], w.x[6], w.x[8] = 0x2100, 3, 0x3100
	w.put(data+0x100, 7)
	o := w.told(t)
	o.does(lr, reserves(data+0x100, 8, 7), reserved(data+0x100, 8))
	o.does(sc, stored(data+0x100, 8, 3), unreserved)
}

// P16.3: where an sc can't write it traps, also without a reservation.
func TestReservesWhereNothingMayBe(t *testing.T) {
	sc := bitsOf(t, inst(api.Sc, 8))
	w := paged().laid(sc)
	w.x[5] = 0x4100
	w.told(t).traps(sc, api.WritePage, 0x4100)
	one(t, sc, 0x80100000, 0).traps(sc, api.WriteFault, 0x80100000)
	one(t, sc, 0x80100004, 0).traps(sc, api.WriteMisaligned, 0x80100004)
	// An lr there traps, and the reservation that is there stays.
	lr, bad := bitsOf(t, inst(api.Lr, 8)), bitsOf(t, api.Inst{Kind: api.Lr, Rd: 4, Rs1: 8, Size: 4})
	w = bare().laid(lr, bad)
	w.x[5], w.x[8] = data, 0x2000000
	w.put(data, 7)
	o := w.told(t)
	o.does(lr, reserves(data, 8, 7), reserved(data, 8))
	o.traps(bad, api.ReadFault, 0x2000000)
}
