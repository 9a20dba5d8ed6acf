package hart_test

import (
	"encoding/binary"
	"slices"
	"testing"

	"tandem/api"
)

// at is what stands in a world's data, of 8 bytes.
func at(place uint64) uint64 {
	w := bare()
	return binary.LittleEndian.Uint64(w.image[place-base:])
}

// P16.3: loads of all sizes, with a sign and without one.
func TestLoads(t *testing.T) {
	for _, c := range []struct {
		size     int
		unsigned bool
		want     uint64
	}{
		{1, false, 0xffffffffffffff88}, {1, true, 0x88}, {2, false, 0xffffffffffff8788}, {2, true, 0x8788},
		{4, false, 0xffffffff85868788}, {4, true, 0x85868788}, {8, false, 0x8182838485868788},
	} {
		for _, imm := range []int64{0, 8, -8, 2040, -2048} {
			bits := bitsOf(t, api.Inst{Kind: api.Load, Rd: 4, Rs1: 5, Imm: imm, Size: c.size, Unsigned: c.unsigned})
			w := bare().laid(bits)
			w.x[5] = data + 0x100 - uint64(imm)
			w.put(data+0x100, 0x8182838485868788)
			w.told(t).does(bits, api.Record{Reg: api.RegX, Rd: 4, Value: c.want, Mem: api.Read, Addr: data + 0x100, Size: c.size}, nil)
		}
	}
	bits := bitsOf(t, api.Inst{Kind: api.Load, Rd: 5, Rs1: 5, Imm: 4, Size: 1})
	one(t, bits, data, 0).does(bits, api.Record{Reg: api.RegX, Rd: 5, Value: 0xffffffffffffff94, Mem: api.Read, Addr: data + 4, Size: 1}, nil)
}

// P16.3: stores of all sizes: the lowest bytes alone.
func TestStores(t *testing.T) {
	const v = 0x8182838485868788
	for _, c := range []struct {
		size int
		want uint64
	}{{1, 0x88}, {2, 0x8788}, {4, 0x85868788}, {8, v}} {
		for _, imm := range []int64{0, 8, -8, 2040, -2048} {
			bits := bitsOf(t, api.Inst{Kind: api.Store, Rs1: 5, Rs2: 6, Imm: imm, Size: c.size})
			one(t, bits, data+0x800-uint64(imm), v).does(bits, api.Record{Mem: api.Write, Addr: data + 0x800, Size: c.size, Data: c.want}, nil)
		}
		bits := bitsOf(t, api.Inst{Kind: api.Store, Rs1: 5, Size: c.size})
		one(t, bits, data+0x800, v).does(bits, api.Record{Mem: api.Write, Addr: data + 0x800, Size: c.size}, nil)
	}
}

// P16.3: floats are loaded boxed, and stored as the register holds them.
func TestLoadsAndStoresOfFloats(t *testing.T) {
	for _, imm := range []int64{0, 8, -8} {
		w := bare()
		w.x[5] = data + 0x100 - uint64(imm)
		w.f[6] = 0x0123456789abcdef
		w.put(data+0x100, 0x8182838485868788)
		single := bitsOf(t, api.Inst{Kind: api.FLoad, Rs1: 5, Imm: imm, Size: 4})
		double := bitsOf(t, api.Inst{Kind: api.FLoad, Rd: 31, Rs1: 5, Imm: imm, Size: 8})
		saves := bitsOf(t, api.Inst{Kind: api.FStore, Rs1: 5, Rs2: 6, Imm: imm, Size: 4})
		saved := bitsOf(t, api.Inst{Kind: api.FStore, Rs1: 5, Rs2: 6, Imm: imm, Size: 8})
		w.laid(single, double, saves, saved)
		o := w.told(t)
		o.does(single, api.Record{Reg: api.RegF, Value: 0xffffffff85868788, Mem: api.Read, Addr: data + 0x100, Size: 4}, nil)
		o.does(double, api.Record{Reg: api.RegF, Rd: 31, Value: 0x8182838485868788, Mem: api.Read, Addr: data + 0x100, Size: 8}, nil)
		o.does(saves, api.Record{Mem: api.Write, Addr: data + 0x100, Size: 4, Data: 0x89abcdef}, nil)
		o.does(saved, api.Record{Mem: api.Write, Addr: data + 0x100, Size: 8, Data: 0x0123456789abcdef}, nil)
	}
}

// access is an instruction that accesses data at the number of 5.
type access struct {
	kind, size int
}

// accesses are all of them; those whose kind of access is Read, and others.
func accesses() (reads, writes []access) {
	for _, n := range []int{1, 2, 4, 8} {
		reads = append(reads, access{api.Load, n})
		writes = append(writes, access{api.Store, n})
	}
	for _, n := range []int{4, 8} {
		reads = append(reads, access{api.FLoad, n}, access{api.Lr, n})
		writes = append(writes, access{api.FStore, n}, access{api.Sc, n})
		for k := api.AmoSwap; k <= api.AmoMaxu; k++ {
			writes = append(writes, access{k, n})
		}
	}
	return reads, writes
}

// fails holds that all accesses at an address trap: some by one cause, the others by another one.
func fails(t *testing.T, w *world, at uint64, least int, read, write uint64) {
	t.Helper()
	reads, writes := accesses()
	for n, l := range [][]access{reads, writes} {
		for _, a := range l {
			if a.size < least {
				continue
			}
			bits := bitsOf(t, inst(a.kind, a.size))
			w.laid(bits)
			w.x[5] = at
			w.told(t).traps(bits, [...]uint64{read, write}[n], at)
		}
	}
}

// P16.3: what isn't aligned traps, ahead of all else, wherever it is.
func TestMisaligned(t *testing.T) {
	for _, place := range []uint64{data, 0, 0x10000000, 0x80100000, 1<<64 - 8} {
		for _, far := range []uint64{1, 2, 3, 4, 5, 6, 7} {
			least := 2
			for far%uint64(least) == 0 {
				least *= 2
			}
			fails(t, bare(), place+far, least, api.ReadMisaligned, api.WriteMisaligned)
			fails(t, paged(), 0x6c000+far, least, api.ReadMisaligned, api.WriteMisaligned)
		}
	}
}

// P16.3: what is nowhere is an access fault; so is what pmp doesn't let be.
func TestNowhere(t *testing.T) {
	for _, place := range []uint64{0, 0x1000, 0x7ffffff8, 0x80100000, 0x90000000, 0x1fffff8, 0x2010000, 0x10000008, 0x200c000, 1<<64 - 8} {
		fails(t, bare(), place, 1, api.ReadFault, api.WriteFault)
	}
	w := bare()
	w.mode = inS
	w.lay(0x3a0, 0x1f<<56|0x1c<<8) // an entry ahead of that which allows all: X alone, over the data
	w.lay(0x3b1, data>>2|0x1ff)
	fails(t, w, data+0x10, 1, api.ReadFault, api.WriteFault)
}

// P16.3: devices are read and written by sizes of theirs alone.
func TestDevicesBySize(t *testing.T) {
	for place, sizes := range map[uint64][]int{0x2000000: {4}, 0x2004000: {4, 8}, 0xc000008: {4}, 0xc200000: {4}, 0x10000000: {1}} {
		reads, writes := accesses()
		for n, l := range [][]access{reads, writes} {
			for _, a := range l {
				bits := bitsOf(t, inst(a.kind, a.size))
				o := one(t, bits, place, 0)
				if oneOf(a.kind, []int{api.Load, api.FLoad, api.Store, api.FStore}) && slices.Contains(sizes, a.size) {
					if r := o.h.Step(); r.Kind != api.Done || r.Mem != [...]int{api.Read, api.Write}[n] || r.Addr != place || r.Size != a.size {
						t.Errorf("%+v at %x: %+v", a, place, r)
					}
				} else {
					o.traps(bits, [...]uint64{api.ReadFault, api.WriteFault}[n], place)
				}
			}
		}
	}
}

// P16.3: devices are never accessed atomically, nor by lr and sc, and nothing happens to them then.
func TestDevicesAtomically(t *testing.T) {
	for _, place := range []uint64{0x2000000, 0x2004000, 0xc200000, 0xc200004, 0x200bff8} {
		reads, writes := accesses()
		for _, a := range append(reads, writes...) {
			cause := uint64(api.WriteFault)
			switch {
			case place%uint64(a.size) != 0:
				continue
			case a.kind == api.Lr:
				cause = api.ReadFault
			case a.kind != api.Sc && (a.kind < api.AmoSwap || a.kind > api.AmoMaxu):
				continue
			}
			bits := bitsOf(t, inst(a.kind, a.size))
			one(t, bits, place, 7).traps(bits, cause, place)
		}
	}
}

// P16.3: an lr of the PLIC's register of claims takes nothing into service.
func TestClaimsByLr(t *testing.T) {
	reserve, claim := bitsOf(t, inst(api.Lr, 4)), bitsOf(t, inst(api.Load, 4))
	priority := bitsOf(t, api.Inst{Kind: api.Store, Rs1: 8, Rs2: 6, Size: 4})
	enable := bitsOf(t, api.Inst{Kind: api.Store, Rs1: 9, Rs2: 7, Size: 4})
	w := bare().laid(priority, enable, reserve, claim)
	w.x[5], w.x[6], w.x[7], w.x[8], w.x[9] = 0xc200004, 3, 4, 0xc000008, 0xc002000
	w.events = []api.Event{{Cycle: 0, Kind: api.EventLine, N: 2, V: 1}}
	w.lay(0x305, code+12)
	o := w.told(t)
	o.does(priority, api.Record{Mem: api.Write, Addr: 0xc000008, Size: 4, Data: 3}, nil)
	o.does(enable, api.Record{Mem: api.Write, Addr: 0xc002000, Size: 4, Data: 4}, nil)
	o.traps(reserve, api.ReadFault, 0xc200004)
	o.does(claim, api.Record{Reg: api.RegX, Rd: 4, Value: 2, Mem: api.Read, Addr: 0xc200004, Size: 4}, nil)
}

// P16.3: devices are read and written once, in the cycle of the record.
func TestDevices(t *testing.T) {
	get, put, wide := bitsOf(t, inst(api.Load, 1)), bitsOf(t, inst(api.Store, 1)), bitsOf(t, inst(api.Load, 8))
	w := bare().laid(get, get, put, get, get)
	w.x[5], w.x[6] = 0x10000000, 0x1ff
	w.events = []api.Event{{Cycle: 0, Kind: api.EventByte, V: 'a'}, {Cycle: 0, Kind: api.EventByte, V: 0xfe}, {Cycle: 9, Kind: api.EventByte, V: 'c'}}
	o := w.told(t)
	read := api.Record{Reg: api.RegX, Rd: 4, Value: 'a', Mem: api.Read, Addr: 0x10000000, Size: 1}
	o.does(get, read, nil)
	read.Value = 0xfffffffffffffffe
	o.does(get, read, nil)
	o.does(put, api.Record{Mem: api.Write, Addr: 0x10000000, Size: 1, Data: 0xff}, nil)
	read.Value = 0
	o.does(get, read, nil)
	o.to(9)
	read.Value = 'c'
	o.does(get, read, nil)

	w = bare().laid(wide, wide)
	w.x[5] = 0x200bff8
	o = w.told(t)
	for _, cycle := range []int64{3, 1000} {
		o.to(cycle)
		o.does(wide, api.Record{Reg: api.RegX, Rd: 4, Value: uint64(cycle) + 1, Mem: api.Read, Addr: 0x200bff8, Size: 8}, nil)
	}
}

// P16.3: floats are read from devices and written to them, too.
func TestDevicesAndFloats(t *testing.T) {
	get, put := bitsOf(t, inst(api.FLoad, 8)), bitsOf(t, inst(api.FStore, 8))
	w := bare().laid(put, get)
	w.x[5], w.f[6] = 0x2004000, 0x123456789abcdef0
	o := w.told(t)
	o.does(put, api.Record{Mem: api.Write, Addr: 0x2004000, Size: 8, Data: 0x123456789abcdef0}, nil)
	o.does(get, api.Record{Reg: api.RegF, Rd: 4, Value: 0x123456789abcdef0, Mem: api.Read, Addr: 0x2004000, Size: 8}, nil)
}

// P16.3: atomic operations, of words and doubles.
func TestAtomics(t *testing.T) {
	const old = 0x81828384f5868788
	for _, c := range []struct {
		kind, size int
		v          uint64
		want       uint64
	}{
		{api.AmoSwap, 4, 0x1122334455667788, 0x55667788}, {api.AmoSwap, 8, 0x1122334455667788, 0x1122334455667788},
		{api.AmoAdd, 4, 0x10000000, 0x05868788}, {api.AmoAdd, 8, top, 0x01828384f5868788},
		{api.AmoXor, 4, 1<<64 - 1, 0x0a797877}, {api.AmoXor, 8, 1<<64 - 1, 0x7e7d7c7b0a797877},
		{api.AmoAnd, 4, 0xfff, 0x788}, {api.AmoAnd, 8, 0xfff, 0x788},
		{api.AmoOr, 4, 0xfff, 0xf5868fff}, {api.AmoOr, 8, 0xfff, 0x81828384f5868fff},
		{api.AmoMin, 4, 1, 0xf5868788}, {api.AmoMin, 8, 1, old}, {api.AmoMin, 4, top | 0x80000000, 0x80000000},
		{api.AmoMax, 4, 1, 1}, {api.AmoMax, 8, 1, 1}, {api.AmoMax, 8, top, old},
		{api.AmoMinu, 4, 1, 1}, {api.AmoMinu, 8, 1, 1}, {api.AmoMinu, 8, 1<<64 - 1, old},
		{api.AmoMaxu, 4, 1, 0xf5868788}, {api.AmoMaxu, 8, 1, old}, {api.AmoMaxu, 8, 1<<64 - 1, 1<<64 - 1},
	} {
		read := uint64(old)
		if c.size == 4 {
			read = 0xfffffffff5868788
		}
		for _, x := range []api.Inst{{Rd: 4, Rs1: 5, Rs2: 6}, {Rd: 5, Rs1: 5, Rs2: 6}, {Rd: 6, Rs1: 5, Rs2: 6}} {
			x.Kind, x.Size = c.kind, c.size
			bits := bitsOf(t, x)
			w := bare().laid(bits)
			w.put(data+0x100, old)
			w.x[5], w.x[6] = data+0x100, c.v
			w.told(t).does(bits, api.Record{Reg: api.RegX, Rd: x.Rd, Value: read, Mem: api.Atomic, Addr: data + 0x100, Size: c.size, Data: c.want}, nil)
		}
	}
	bits := bitsOf(t, api.Inst{Kind: api.AmoAdd, Rd: 4, Rs1: 5, Rs2: 5, Size: 8})
	w := bare().laid(bits)
	w.put(data, 1)
	w.x[5] = data
	w.told(t).does(bits, api.Record{Reg: api.RegX, Rd: 4, Value: 1, Mem: api.Atomic, Addr: data, Size: 8, Data: data + 1}, nil)
}

// P16.3: the memory's first and last bytes are as others.
func TestEndsOfMemory(t *testing.T) {
	for _, n := range []int{1, 2, 4, 8} {
		for _, place := range []uint64{base, base + api.RamSize - uint64(n)} {
			put, get := bitsOf(t, inst(api.Store, n)), bitsOf(t, inst(api.Load, n))
			w := bare().laid(put, get)
			w.x[5], w.x[6] = place, 0x11
			o := w.told(t)
			o.does(put, api.Record{Mem: api.Write, Addr: place, Size: n, Data: 0x11}, nil)
			o.does(get, api.Record{Reg: api.RegX, Rd: 4, Value: 0x11, Mem: api.Read, Addr: place, Size: n}, nil)
			if b := o.h.Bytes(place, n); b[0] != 0x11 {
				t.Errorf("%#x: %v", place, b)
			}
		}
	}
}

// DOC.md, 'A step by the book': a store is seen by what is fetched behind it, without a fence.
func TestStoresToCode(t *testing.T) {
	put := bitsOf(t, inst(api.Store, 4))
	w := bare().laid(put, 0x00000013)
	w.x[5], w.x[6] = code+4, 0x00500513
	o := w.told(t)
	o.does(put, api.Record{Mem: api.Write, Addr: code + 4, Size: 4, Data: 0x00500513}, nil)
	o.sets(0x00500513, 10, 5)
}
