package plic_test

import (
	"testing"

	"tandem/plic"
)

// The chapter's examples, row by row.

func TestExampleOfPriorities(t *testing.T) {
	x := told{t, plic.New()}
	x.write(12, 0xff)
	x.read(12, 7)
	x.write(0, 5)
	x.read(0, 0)
	if v, ok := x.p.Read(36, 4); v != 0 || ok {
		t.Errorf("Read(36, 4): %#x, %v", v, ok)
	}
}

// The rows from the second to the fifth one go on from one another.
func TestExamplesOfOneSource(t *testing.T) {
	x := told{t, plic.New()}
	x.write(12, 2)
	x.write(0x2000, 0xffff)
	x.read(0x2000, 0x1fe)
	x.line(3, true)
	x.read(0x1000, 8)
	x.pending(0x800)

	x.line(3, false)
	x.pending(0x800)
	x.read(0x200004, 3)
	x.pending(0)
	x.read(0x200004, 0)

	x.line(3, true)
	x.pending(0)
	x.write(0x200004, 3)
	x.pending(0x800)

	x.write(0x200000, 2)
	x.pending(0)
	x.read(0x200004, 3)
}

func TestExampleOfNoSource(t *testing.T) {
	p := plic.New()
	if p.Line(0, true) || p.Line(9, true) {
		t.Error("true")
	}
}
