package ram_test

import (
	"slices"
	"testing"

	"tandem/ram"
)

// The chapter's examples, row by row.

func TestExamplesOfANewOne(t *testing.T) {
	for _, x := range []struct {
		at   uint64
		size int
		ok   bool
	}{{0x80000000, 8, true}, {0x7fffffff, 1, false}, {0x800ffffc, 8, false}, {0x80000000, 3, false}} {
		if v, ok := ram.New().Read(x.at, x.size); v != 0 || ok != x.ok {
			t.Errorf("Read(%#x, %d): %#x, %v", x.at, x.size, v, ok)
		}
	}
}

func TestExampleOverTwoPages(t *testing.T) {
	m := ram.New()
	if !m.Write(0x80000ffe, 4, 0xaabbccdd) {
		t.Error("Write: false")
	}
	if v, ok := m.Read(0x80000fff, 2); v != 0xbbcc || !ok {
		t.Errorf("Read: %#x, %v", v, ok)
	}
	if l := m.Pages(); !slices.Equal(l, []uint64{0x80000000, 0x80001000}) {
		t.Errorf("Pages: %#x", l)
	}
}

func TestExampleAtTheEndOfAllNumbers(t *testing.T) {
	m := ram.New()
	if m.Write(1<<64-1, 2, 1) || m.Has(1<<64-1, 8) {
		t.Error("true")
	}
}

func TestExampleOfLay(t *testing.T) {
	m := ram.New()
	if !m.Lay([]byte{1, 2, 3}) {
		t.Error("Lay: false")
	}
	if v, ok := m.Read(0x80000000, 4); v != 0x030201 || !ok {
		t.Errorf("Read: %#x, %v", v, ok)
	}
}

func TestExampleOfACopy(t *testing.T) {
	m := ram.New()
	m.Write(0x80000ffe, 4, 0xaabbccdd)
	o := m.Copy()
	o.Write(0x80000ffe, 4, 0)
	if m.Same(o) || o.Same(m) {
		t.Error("same, though written")
	}
	m.Write(0x80000ffe, 4, 0)
	if !m.Same(o) || !o.Same(m) {
		t.Error("not the same, though both are written so")
	}
}
