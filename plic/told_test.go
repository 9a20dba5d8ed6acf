package plic_test

import (
	"testing"

	"tandem/plic"
)

// told holds answers against those that are asked for.
type told struct {
	t *testing.T
	p *plic.Plic
}

func (x told) read(at, want uint64) {
	x.t.Helper()
	if v, ok := x.p.Read(at, 4); v != want || !ok {
		x.t.Errorf("Read(%#x, 4): %#x, %v, not %#x", at, v, ok, want)
	}
}

func (x told) write(at, v uint64) {
	x.t.Helper()
	if !x.p.Write(at, 4, v) {
		x.t.Errorf("Write(%#x, 4, %#x): false", at, v)
	}
}

func (x told) line(n int, up bool) {
	x.t.Helper()
	if !x.p.Line(n, up) {
		x.t.Errorf("Line(%d, %v): false", n, up)
	}
}

func (x told) pending(want uint64) {
	x.t.Helper()
	if v := x.p.Pending(); v != want {
		x.t.Errorf("Pending: %#x, not %#x", v, want)
	}
}

// only is v, if something holds; else 0.
func only(holds bool, v uint64) uint64 {
	if holds {
		return v
	}
	return 0
}
