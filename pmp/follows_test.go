package pmp_test

import (
	"testing"

	"tandem/api"
	"tandem/pmp"
)

// P11.5: M may do all where no entry is locked and none is hit in part.
func TestMachineMayDoAll(t *testing.T) {
	d := dice(1110)
	seen := 0
	for range 20000 {
		e := d.entries()
		for n := range e.cfg {
			e.cfg[n] &^= 0x80
		}
		a := d.access(e)
		a.mode = api.Machine
		whole := a.at+uint64(a.size)-1 >= a.at
		for n := range e.cfg {
			hit := e.hits(n, a)
			whole = whole && (hit == 0 || hit == a.size)
		}
		if whole {
			seen++
			told{t}.check(e, a, true)
		}
	}
	if seen < 1000 {
		t.Errorf("%d of them", seen)
	}
}

// P11.5: U and S may do nothing where all are off.
func TestOthersMayDoNothing(t *testing.T) {
	d := dice(1111)
	for range 5000 {
		e := d.entries()
		for n := range e.cfg {
			e.cfg[n] &^= 0x18
		}
		a := d.access(e)
		for _, mode := range modes() {
			a.mode = mode
			told{t}.check(e, a, mode == api.Machine && a.at+uint64(a.size)-1 >= a.at)
		}
	}
}

// P11.5: entries behind the one that decides don't count.
func TestEntriesBehindDoNotCount(t *testing.T) {
	d := dice(1112)
	for range 20000 {
		e, o := d.entries(), d.entries()
		a := d.access(e)
		n := e.decider(a)
		for i := n + 1; i < 8; i++ {
			e.cfg[i], e.addr[i] = 0, 0
		}
		want := pmp.Check(e.cfg, e.addr, a.mode, a.kind, a.at, a.size)
		for i := n + 1; i < 8; i++ {
			e.cfg[i], e.addr[i] = o.cfg[i], o.addr[i]
		}
		told{t}.check(e, a, want)
	}
}

// turnBehind is all entries behind a write of any kind that turns none ahead of the entry n.
func (d *dice) turnBehind(e entries, n int) entries {
	if d.below(2) == 0 {
		v := d.next()
		for i := range n {
			v = v&^(0xff<<(8*i)) | uint64(e.cfg[i])<<(8*i)
		}
		e.cfg = pmp.Config(e.cfg, v)
		return e
	}
	first := uint64(n)
	if e.cfg[n]&0x18 == 0x08 && n > 0 {
		first--
	}
	e.addr = pmp.Address(e.cfg, e.addr, int(first+d.below(9-first)), d.address())
	return e
}

// P11.5: what a locked entry decides is the same behind whatever writes, as long as none ahead of it is turned; its range is, too.
func TestLockedOnesDecideTheSame(t *testing.T) {
	d := dice(1113)
	seen := map[uint8]int{}
	for range 20000 {
		e := d.entries()
		a := d.access(e)
		n := e.decider(a)
		if n == 8 {
			continue
		}
		e.cfg[n] |= 0x80
		seen[e.cfg[n]>>3&3]++
		want := pmp.Check(e.cfg, e.addr, a.mode, a.kind, a.at, a.size)
		first, last, _ := pmp.Range(e.cfg, e.addr, n)
		for range 20 {
			e = d.turnBehind(e, n)
			told{t}.check(e, a, want)
			told{t}.spans(e, n, first, last)
		}
	}
	for way := range uint8(3) {
		if seen[way+1] < 1000 {
			t.Errorf("of the way %d: %d of them", way+1, seen[way+1])
		}
	}
}
