package plic_test

import (
	"testing"

	"tandem/plic"
)

// The kinds of calls.
const (
	raises = iota
	lowers
	reads
	writes
)

// call is one of any kind: of a source's line, or of a register.
type call struct {
	kind, source, context, size int
	at, v                       uint64
}

func (k call) claims() bool {
	return k.kind == reads && k.size == 4 && k.at == claims(k.context)
}

func (k call) finishes() bool {
	return k.kind == writes && k.size == 4 && k.at == claims(k.context)
}

// turn is a call of any kind; most of them are such as do something.
func turn(d *dice) call {
	c := int(d.below(2))
	k := call{source: int(d.below(8)) + 1, context: c, size: 4}
	switch d.below(16) {
	case 0, 1, 2:
		k.kind = raises
	case 3, 4:
		k.kind = lowers
	case 5, 6, 7, 8:
		k.kind, k.at = reads, claims(c)
	case 9, 10, 11:
		k.kind, k.at, k.v = writes, claims(c), d.below(9)+d.below(2)<<32
	case 12:
		k.kind, k.at, k.v = writes, priority(k.source), d.next()
	case 13:
		k.kind, k.at, k.v = writes, enables(c), d.next()|d.next()
	case 14:
		k.kind, k.at, k.v = writes, thresholds(c), d.below(10)
	default:
		k.kind, k.at, k.v = int(d.below(4)), places()[d.below(16)]+d.below(2)*d.below(5), d.next()
		k.size = []int{1, 2, 4, 4, 8, 0, -4}[d.below(7)]
		k.source = int(d.below(30)) - 10
		if k.at == claims(1-c) {
			k.context = 1 - c
		}
	}
	return k
}

// apply does a call to both, fails if they answer otherwise, and tells what was read.
func apply(t *testing.T, what string, p *plic.Plic, s *sets, k call) uint64 {
	t.Helper()
	var v, w uint64
	var ok, is bool
	switch k.kind {
	case raises, lowers:
		ok, is = p.Line(k.source, k.kind == raises), s.line(k.source, k.kind == raises)
	case reads:
		v, ok = p.Read(k.at, k.size)
		w, is = s.read(k.at, k.size)
	case writes:
		ok, is = p.Write(k.at, k.size, k.v), s.write(k.at, k.size, k.v)
	}
	if v != w || ok != is {
		t.Fatalf("%s: %+v: %#x, %v, not %#x, %v", what, k, v, ok, w, is)
	}
	same(t, what, p, s)
	return v
}
