package hart_test

import (
	"testing"

	"tandem/api"
	"tandem/hart"
)

// The chapter's examples, and those of DOC.md that tell of a hart, row by row; each is all of a record, in cycle 0.

// runs holds the records of a setup's first steps.
func runs(t *testing.T, s api.Setup, l ...api.Record) {
	t.Helper()
	h := hart.New(s)
	if h == nil {
		t.Fatal("there is no hart")
	}
	h.Tick(0)
	for i, want := range l {
		if r := h.Step(); r != want {
			t.Errorf("%x: step %d: %+v, not %+v", s.Image[:min(8, len(s.Image))], i, r, want)
		}
	}
}

func from(image ...byte) api.Setup {
	return api.Setup{Image: image, PC: base}
}

func TestExamples(t *testing.T) {
	runs(t, from(0x13, 0x05, 0x50, 0), api.Record{Kind: api.Done, PC: base, Bits: 0x500513, Mode: 3, Reg: api.RegX, Rd: 10, Value: 5, Next: 0x80000004})
	runs(t, from(0x15, 0x45), api.Record{Kind: api.Done, PC: base, Bits: 0x4515, Mode: 3, Reg: api.RegX, Rd: 10, Value: 5, Next: 0x80000002})
	runs(t, from(0, 0), api.Record{Kind: api.Trap, PC: base, Mode: 3, Cause: 2},
		api.Record{Kind: api.Trap, Mode: 3, Cause: 1}, api.Record{Kind: api.Trap, Mode: 3, Cause: 1})
	runs(t, from(0x03, 0x35, 0, 0), api.Record{Kind: api.Trap, PC: base, Bits: 0x3503, Mode: 3, Cause: 5})
	runs(t, from(0x03, 0x35, 0x10, 0), api.Record{Kind: api.Trap, PC: base, Bits: 0x103503, Mode: 3, Cause: 4, Tval: 1})
	runs(t, from(0x73, 0x25, 0x40, 0xf1), api.Record{Kind: api.Done, PC: base, Bits: 0xf1402573, Mode: 3, Reg: api.RegX, Rd: 10, Next: 0x80000004})
	runs(t, from(0x73, 0x10, 0x05, 0x30), api.Record{Kind: api.Done, PC: base, Bits: 0x30051073, Mode: 3, Csr: 0x301, CsrValue: 0xa00000000, Next: 0x80000004})
}

func TestExampleOfTheEnd(t *testing.T) {
	for _, end := range []byte{0x03, 0x13, 0xff} {
		image := make([]byte, api.RamSize)
		image[0], image[1] = 0x13, 0x05
		image[api.RamSize-2], image[api.RamSize-1] = end, 0x05
		runs(t, api.Setup{Image: image, PC: 0x800ffffe}, api.Record{Kind: api.Trap, PC: 0x800ffffe, Mode: 3, Cause: 1, Tval: 0x80100000})
	}
}

func TestExamplesOfTheWhole(t *testing.T) {
	runs(t, from(0x73, 0x00, 0x50, 0x10), api.Record{Kind: api.Done, PC: base, Bits: 0x10500073, Mode: 3, Next: base + 4})
	runs(t, from(0x37, 0x05, 0, 0x02, 0x83, 0x35, 0x85, 0xff),
		api.Record{Kind: api.Done, PC: base, Bits: 0x2000537, Mode: 3, Reg: api.RegX, Rd: 10, Value: 0x2000000, Next: base + 4},
		api.Record{Kind: api.Trap, PC: base + 4, Bits: 0xff853583, Mode: 3, Cause: 5, Tval: 0x1fffff8})
	runs(t, from(0xb7, 0xc4, 0, 0x02, 0x03, 0xb5, 0x84, 0xff),
		api.Record{Kind: api.Done, PC: base, Bits: 0x200c4b7, Mode: 3, Reg: api.RegX, Rd: 9, Value: 0x200c000, Next: base + 4},
		api.Record{Kind: api.Done, PC: base + 4, Bits: 0xff84b503, Mode: 3, Reg: api.RegX, Rd: 10, Value: 1, Mem: api.Read, Addr: 0x200bff8, Size: 8, Next: base + 8})
	runs(t, from(0x17, 0x04, 0, 0, 0x2f, 0x35, 0x04, 0x10, 0x2f, 0x36, 0xa4, 0x18),
		api.Record{Kind: api.Done, PC: base, Bits: 0x417, Mode: 3, Reg: api.RegX, Rd: 8, Value: base, Next: base + 4},
		api.Record{Kind: api.Done, PC: base + 4, Bits: 0x1004352f, Mode: 3, Reg: api.RegX, Rd: 10, Value: 0x1004352f00000417, Mem: api.Read, Addr: base, Size: 8, Next: base + 8},
		api.Record{Kind: api.Done, PC: base + 8, Bits: 0x18a4362f, Mode: 3, Reg: api.RegX, Rd: 12, Mem: api.Write, Addr: base, Size: 8, Data: 0x1004352f00000417, Next: base + 12})
	runs(t, from(0xd3, 0xf0, 0, 0), api.Record{Kind: api.Trap, PC: base, Bits: 0xf0d3, Mode: 3, Cause: 2, Tval: 0xf0d3})
}

// The time of a record is that of its cycle, and 1.
func TestExampleOfTheTime(t *testing.T) {
	h := hart.New(from(0xb7, 0xc4, 0, 0x02, 0x03, 0xb5, 0x84, 0xff))
	h.Tick(7)
	h.Step()
	h.Tick(41)
	if r := h.Step(); r.Cycle != 41 || r.Value != 42 {
		t.Errorf("%+v", r)
	}
}
