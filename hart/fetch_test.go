package hart_test

import (
	"testing"

	"tandem/api"
	"tandem/hart"
)

// fetched is a hart whose PC is at in a mode, with a paged world.
func fetched(t *testing.T, mode int, at uint64, fill func(o *world)) *told {
	t.Helper()
	o := paged()
	o.mode, o.at = mode, at
	if fill != nil {
		fill(o)
	}
	return o.told(t)
}

// P16.3: what can't be fetched traps, with PC as Tval, and without bits.
func TestUnfetched(t *testing.T) {
	for _, c := range []struct {
		mode  int
		at    uint64
		cause uint64
	}{
		{inS, 0xc000, api.FetchPage}, {inS, 0x2000, api.FetchPage}, {inS, 0x5000, api.FetchPage}, {inS, 0x11000, api.FetchPage},
		{inS, 0x7000, api.FetchFault}, {inS, 0xb000, api.FetchFault}, {inS, 0x300000, api.FetchFault}, {inS, 0x4000000000, api.FetchPage},
		{inU, 0x1000, api.FetchPage}, {inU, 0x12000, api.FetchPage},
	} {
		fetched(t, c.mode, c.at, nil).traps(0, c.cause, c.at)
	}
	for _, place := range []uint64{0, 0x2000000, 0x2004000, 0xc000000, 0x10000000, 0x80100000, 0x7ffffffe, 1<<64 - 2} {
		for _, odd := range []uint64{0, 1} {
			h := hart.New(api.Setup{PC: place + odd})
			h.Tick(4)
			(&told{t: t, h: h, cycle: 4}).traps(0, api.FetchFault, place)
		}
	}
}

// P16.3: SUM and MXR let nothing be fetched.
func TestUnfetchedWhateverMstatus(t *testing.T) {
	for _, c := range []struct {
		at     uint64
		status uint64
	}{{0x11000, sum}, {0x2000, mxr}, {0x4000, mxr | sum}} {
		fetched(t, inS, c.at, func(o *world) { o.status |= c.status }).traps(0, api.FetchPage, c.at)
	}
}

// P16.3: pmp is asked for each two bytes: the second ones have a trap of their own.
func TestFetchedByHalves(t *testing.T) {
	const half = code + 4 // where the second half stands, in pmp's next four bytes
	for _, c := range []struct {
		first, second uint64 // the settings of the two halves
		tval          uint64 // 0: it is done
	}{{4, 4, 0}, {5, 7, 0}, {4, 3, half}, {7, 1, half}, {4, 0, half}, {3, 4, half - 2}, {1, 1, half - 2}, {0, 7, half - 2}} {
		o := bare().laid(0x0001, 0x00500513)
		o.mode, o.at = inU, half-2
		o.lay(0x3b0, code>>2)
		o.lay(0x3b1, half>>2)
		o.lay(0x3a0, 0x1f<<56|(0x10|c.second)<<8|0x10|c.first)
		if c.tval == 0 {
			o.told(t).sets(0x00500513, 10, 5)
		} else {
			o.told(t).traps(0, api.FetchFault, c.tval)
		}
	}
}

// P16.3: an instruction over the end of a page; its second half has another page, or none.
func TestFetchedOverPages(t *testing.T) {
	two := func(o *world, bits uint32) { // over the end of the page of code, and the beginning of that of data
		copy(o.image[data-base-2:], row(bits))
	}
	fetched(t, inS, 0x1ffe, func(o *world) { two(o, 0x00500513) }).traps(0, api.FetchPage, 0x2000)
	fetched(t, inS, 0x1ffe, func(o *world) { two(o, 0x00500513); o.put(tables+0x2000+16, 0) }).traps(0, api.FetchPage, 0x2000)
	fetched(t, inS, 0x1ffe, func(o *world) { two(o, 0x00500513); o.put(tables+0x2000+16, to(0x10000000, v|r|x|a)) }).traps(0, api.FetchFault, 0x2000)
	fetched(t, inS, 0x1ffe, func(o *world) { two(o, 0x4515) }).sets(0x4515, 10, 5)
	// The second page begins elsewhere.
	h := fetched(t, inS, 0x1ffe, func(o *world) {
		o.put(tables+0x2000+16, to(spare, v|x|a))
		two(o, 0x00500513)
		copy(o.image[spare-base:], []byte{0x70, 0x00})
	})
	h.sets(0x00700513, 10, 7)
}

// P16.3: behind the last address comes the first one.
func TestFetchedOverTheLastAddress(t *testing.T) {
	h := fetched(t, inS, 1<<64-2, func(o *world) {
		copy(o.image[spare-base+0x1ffe:], []byte{0x97, 0x05})
		copy(o.image[spare-base:], []byte{0x00, 0x00, 0x13, 0x05, 0x50, 0x00})
	})
	h.does(0x00000597, api.Record{Reg: api.RegX, Rd: 11, Value: 1<<64 - 2, Next: 2}, nil) // auipc x11, 0
	h.sets(0x00500513, 10, 5)
	h = fetched(t, inS, 1<<64-2, func(o *world) {
		copy(o.image[spare-base+0x1ffe:], row(0x4515))
		o.put(tables+0x2000, 0)
	})
	if r := h.h.Step(); r != (api.Record{Kind: api.Done, PC: 1<<64 - 2, Bits: 0x4515, Mode: inS, Reg: api.RegX, Rd: 10, Value: 5}) {
		t.Errorf("%+v", r)
	}
	h.traps(0, api.FetchPage, 0)
}

// P16.3: 2 bytes at the memory's end are an instruction; its next one can't be fetched.
func TestFetchedAtTheEnd(t *testing.T) {
	image := make([]byte, api.RamSize)
	copy(image[api.RamSize-2:], row(0x4515))
	h := hart.New(api.Setup{Image: image, PC: 0x800fffff})
	h.Tick(0)
	o := &told{t: t, h: h}
	o.sets(0x4515, 10, 5)
	o.traps(0, api.FetchFault, 0x80100000)
	copy(image[api.RamSize-4:], row(0x00500513))
	h = hart.New(api.Setup{Image: image, PC: 0x800ffffc})
	h.Tick(0)
	o = &told{t: t, h: h}
	o.sets(0x00500513, 10, 5)
}
