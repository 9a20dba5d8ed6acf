package hart_test

import (
	"bytes"
	"encoding/binary"
	"testing"

	"tandem/api"
	"tandem/hart"
)

// A pair is a hart and the book, told the same.
type pair struct {
	t *testing.T
	h *hart.Hart
	o *book
}

func paired(t *testing.T, s api.Setup) pair {
	t.Helper()
	p := pair{t, hart.New(s), newBook(s)}
	if p.h == nil {
		t.Fatal("there is no hart")
	}
	return p
}

// alike fails where both don't hold the same.
func (p pair) alike(what string) {
	p.t.Helper()
	if s := p.h.State(); s != p.o.s {
		p.t.Fatalf("%s at %x: it holds otherwise: %v", what, p.o.s.PC, apart(s, p.o.s))
	}
	if p.h.Waits() != p.o.waits() {
		p.t.Fatalf("%s: Waits: %v", what, p.h.Waits())
	}
}

func (p pair) tick(cycle int64) {
	p.h.Tick(cycle)
	p.o.tick(cycle)
	p.alike("a cycle")
}

func (p pair) step() api.Record {
	p.t.Helper()
	r, want := p.h.Step(), p.o.step()
	if r != want {
		p.t.Fatalf("%+v: it tells otherwise: %v", r, apart(r, want))
	}
	p.alike("a step")
	return r
}

func (p pair) interrupt() bool {
	p.t.Helper()
	r, ok := p.h.Interrupt()
	want, is := p.o.interrupt()
	if r != want || ok != is {
		p.t.Fatalf("an interrupt: %v, not %v: %v", ok, is, apart(r, want))
	}
	p.alike("an interrupt")
	return ok
}

// memory fails where both haven't the same memory.
func (p pair) memory() {
	p.t.Helper()
	var want []byte
	for at := base; at < base+size; at += 8 {
		n, _ := p.o.b.Read(api.Fetch, at, 8)
		want = binary.LittleEndian.AppendUint64(want, n)
	}
	if !bytes.Equal(p.h.Bytes(base, size), want) {
		p.t.Fatal("another memory")
	}
}

// P16.1 to P16.5: many worlds, step by step, with cycles and interrupts between.
func TestManyWorlds(t *testing.T) {
	o := dice(1601)
	done, traps, taken := map[int]int{}, map[uint64]int{}, 0
	for range 4000 {
		p := paired(t, o.world(t).setup(t))
		p.alike("at first")
		cycle, wrong := int64(0), 0
		for n := 0; n < 150 && wrong < 6; n++ {
			switch o.below(8) {
			case 0:
				cycle += int64(o.below(4))
				p.tick(cycle)
			case 1, 2:
				if n > 70 && p.interrupt() { // not on the way to what is looked at
					taken++
				}
			}
			switch r := p.step(); {
			case r.Kind == api.Trap:
				wrong++
				traps[r.Cause]++
			default:
				wrong = 0
				if n > 70 {
					done[p.o.last()]++
				}
			}
		}
		p.memory()
	}
	for k := 1; k < api.Kinds; k++ {
		if k != api.Ecall && k != api.Ebreak && done[k] < 20 {
			t.Errorf("kind %d: done %d times", k, done[k])
		}
	}
	for _, cause := range []uint64{1, 2, 3, 4, 5, 6, 7, 8, 9, 11, 12, 13, 15} {
		if traps[cause] < 20 {
			t.Errorf("cause %d: %d times", cause, traps[cause])
		}
	}
	if taken < 150 {
		t.Errorf("%d interrupts", taken)
	}
}
