package hart_test

import (
	"testing"

	"tandem/api"
)

// The bits of an entry.
const (
	v = 1 << iota
	r
	w
	x
	u
	g
	a
	d
)

// What the most of them let be done.
const (
	pageOfData = v | r | w | a | d
	pageOfAll  = pageOfData | x
)

// to is an entry of a table, or a leaf, of the page at a physical address.
func to(place, bits uint64) uint64 {
	return place>>2 | bits
}

// paged is a world in S, with tables, code and data at addresses of their own. Those of U lie 0x10000 behind those of S.
func paged() *world {
	o := bare()
	o.mode, o.at = inS, 0x1000
	o.lay(0x180, 8<<60|tables>>12)
	o.put(tables, to(tables+0x1000, v))
	o.put(tables+8*511, to(tables+0x1000, v))
	o.put(tables+0x1000, to(tables+0x2000, v))
	o.put(tables+0x1000+8*511, to(tables+0x2000, v))
	o.put(tables+0x1000+8*1, to(0x80000000, pageOfAll)) // from 0x200000 on, and behind the RAM
	for n, e := range map[uint64]uint64{
		0x00:  to(spare, pageOfAll),
		0x01:  to(code, pageOfAll),
		0x02:  to(data, pageOfData),
		0x03:  to(data, pageOfData),
		0x04:  to(data, v|r|a|d),
		0x05:  to(data, v|r|w|x|d),
		0x06:  to(data, v|r|w|x|a),
		0x07:  to(0x10000000, pageOfAll),
		0x08:  to(data, v|x|a|d),
		0x09:  to(data, v|w|x|a|d),
		0x0a:  to(0x2004000, pageOfAll),
		0x0b:  to(0x90000000, pageOfAll),
		0x11:  to(code, v|r|w|x|u|a|d),
		0x12:  to(data, v|r|w|u|a|d),
		0x1ff: to(spare+0x1000, pageOfAll),
	} {
		o.put(tables+0x2000+8*n, e)
	}
	return o
}

// P16.3: what is accessed is told by its physical address.
func TestTranslated(t *testing.T) {
	get, put, swap := bitsOf(t, inst(api.Load, 8)), bitsOf(t, inst(api.Store, 4)), bitsOf(t, inst(api.AmoOr, 8))
	single, saved := bitsOf(t, inst(api.FLoad, 4)), bitsOf(t, inst(api.FStore, 8))
	for _, far := range []uint64{0, 0x10000} {
		o := paged().laid(get, put, swap, single, saved)
		o.at += far
		if far != 0 {
			o.mode = inU
		}
		o.x[5], o.x[6], o.f[6] = 0x2100+far, 0xf00000001, 0x3ff0000000000001
		o.put(data+0x100, 0x80)
		h := o.told(t)
		h.does(get, api.Record{Reg: api.RegX, Rd: 4, Value: 0x80, Mem: api.Read, Addr: data + 0x100, Size: 8}, nil)
		h.does(put, api.Record{Mem: api.Write, Addr: data + 0x100, Size: 4, Data: 1}, nil)
		h.does(swap, api.Record{Reg: api.RegX, Rd: 4, Value: 1, Mem: api.Atomic, Addr: data + 0x100, Size: 8, Data: 0xf00000001}, nil)
		h.does(single, api.Record{Reg: api.RegF, Rd: 4, Value: 0xffffffff00000001, Mem: api.Read, Addr: data + 0x100, Size: 4}, nil)
		h.does(saved, api.Record{Mem: api.Write, Addr: data + 0x100, Size: 8, Data: 0x3ff0000000000001}, nil)
	}
}

// P16.3: page faults and access faults of data have the virtual address as Tval.
func TestFaultsOfPages(t *testing.T) {
	for _, c := range []struct {
		at          uint64
		read, write uint64 // 0: none
	}{
		{0xc100, api.ReadPage, api.WritePage}, // no entry
		{0x4100, 0, api.WritePage},
		{0x5100, api.ReadPage, api.WritePage},
		{0x6100, 0, api.WritePage},
		{0x8100, api.ReadPage, api.WritePage},
		{0x9100, api.ReadPage, api.WritePage},
		{0x12100, api.ReadPage, api.WritePage},
		{0xb100, api.ReadFault, api.WriteFault},
		{0x2f0000, 0, 0},
		{0x300000, api.ReadFault, api.WriteFault},
		{0x40000000, api.ReadPage, api.WritePage},
		{0x4000000000, api.ReadPage, api.WritePage},
		{1<<64 - 0x4000000000, api.ReadPage, api.WritePage},
	} {
		reads, writes := accesses()
		for n, l := range [][]access{reads, writes} {
			cause := [...]uint64{c.read, c.write}[n]
			if cause == 0 {
				continue
			}
			for _, a := range l {
				bits := bitsOf(t, inst(a.kind, a.size))
				o := paged().laid(bits)
				o.x[5] = c.at
				o.told(t).traps(bits, cause, c.at)
			}
		}
	}
}

// P16.3: atomic operations read, too: both rights are asked. (pmp's W without R can't be laid.)
func TestAtomicsNeedBoth(t *testing.T) {
	for k := api.AmoSwap; k <= api.AmoMaxu; k++ {
		swap := bitsOf(t, inst(k, 8))
		for setting, ok := range map[uint64]bool{0x19: false, 0x1b: true, 0x1c: false} {
			o := bare().laid(swap)
			o.mode = inS
			o.x[5], o.x[6] = data+0x10, 0
			o.put(data+0x10, 0)
			o.lay(0x3a0, 0x1f<<56|setting<<8)
			o.lay(0x3b1, data>>2|0x1ff)
			if ok {
				o.told(t).does(swap, api.Record{Reg: api.RegX, Rd: 4, Mem: api.Atomic, Addr: data + 0x10, Size: 8}, nil)
			} else {
				o.told(t).traps(swap, api.WriteFault, data+0x10)
			}
		}
	}
}

// P16.3: devices behind pages are read and written as they are, but not atomically.
func TestDevicesBehindPages(t *testing.T) {
	get, put := bitsOf(t, inst(api.Load, 1)), bitsOf(t, inst(api.Store, 1))
	o := paged().laid(get, put)
	o.x[5], o.x[6] = 0x7000, 'b'
	o.events = []api.Event{{Kind: api.EventByte, V: 'a'}}
	h := o.told(t)
	h.does(get, api.Record{Reg: api.RegX, Rd: 4, Value: 'a', Mem: api.Read, Addr: 0x10000000, Size: 1}, nil)
	h.does(put, api.Record{Mem: api.Write, Addr: 0x10000000, Size: 1, Data: 'b'}, nil)
	for k, cause := range map[int]uint64{api.Lr: api.ReadFault, api.Sc: api.WriteFault, api.AmoAdd: api.WriteFault} {
		bits := bitsOf(t, inst(k, 8))
		o = paged().laid(bits)
		o.x[5] = 0xa000
		o.told(t).traps(bits, cause, 0xa000)
	}
}

// P16.3: M's accesses to data, but not its fetches, are another mode's by MPRV.
func TestByMprv(t *testing.T) {
	get, put := bitsOf(t, inst(api.Load, 8)), bitsOf(t, inst(api.Store, 8))
	for _, c := range []struct {
		status uint64
		at     uint64
		cause  uint64
	}{
		{mprv | 1<<11, 0x2100, 0}, {mprv | 1<<11, data + 0x100, api.ReadPage}, {mprv, 0x2100, api.ReadPage}, {mprv, 0x12100, 0},
		{mprv | mpp, data + 0x100, 0}, {mprv | mpp, 0x2100, api.ReadFault}, {1 << 11, data + 0x100, 0},
		{mprv | 1<<11, 0x12100, api.ReadPage}, {mprv | 1<<11 | sum, 0x12100, 0}, {mprv | 1<<11, 0x8100, api.ReadPage}, {mprv | 1<<11 | mxr, 0x8100, 0},
	} {
		o := paged().laid(get)
		o.mode, o.at, o.status = inM, code, fs|c.status
		o.x[5] = c.at
		o.put(data+0x100, 77)
		h := o.told(t)
		if c.cause == 0 {
			h.does(get, api.Record{Reg: api.RegX, Rd: 4, Value: 77, Mem: api.Read, Addr: data + 0x100, Size: 8}, nil)
		} else {
			h.traps(get, c.cause, c.at)
		}
	}
	o := paged().laid(put, put)
	o.mode, o.at, o.status = inM, code, fs|mprv|1<<11
	o.x[5], o.x[6] = 0x2100, 5
	o.told(t).does(put, api.Record{Mem: api.Write, Addr: data + 0x100, Size: 8, Data: 5}, nil)
}

// DOC.md, 'A step by the book': a store to a table is seen by the next walk, without a fence.
func TestStoresToTables(t *testing.T) {
	put, get := bitsOf(t, inst(api.Store, 8)), bitsOf(t, api.Inst{Kind: api.Load, Rd: 4, Rs1: 8, Size: 8})
	o := paged().laid(get, put, get)
	o.put(tables+0x2000+8*0x0d, to(tables+0x2000, pageOfData))
	o.put(spare+0x100, 1234)
	o.put(data+0x100, 4321)
	o.x[5], o.x[6], o.x[8] = 0xd000+8*0x02, to(spare, pageOfData), 0x2100
	h := o.told(t)
	h.does(get, api.Record{Reg: api.RegX, Rd: 4, Value: 4321, Mem: api.Read, Addr: data + 0x100, Size: 8}, nil)
	h.does(put, api.Record{Mem: api.Write, Addr: tables + 0x2000 + 8*0x02, Size: 8, Data: to(spare, pageOfData)}, nil)
	h.does(get, api.Record{Reg: api.RegX, Rd: 4, Value: 1234, Mem: api.Read, Addr: spare + 0x100, Size: 8}, nil)
}
