package plic_test

import (
	"fmt"
	"math"
	"slices"
	"testing"

	"tandem/plic"
)

// P8.1: New.
func TestNew(t *testing.T) {
	holds(t, "New", plic.New(), newSets())
	x := told{t, plic.New()}
	for _, at := range places() {
		x.read(at, 0)
	}
	x.pending(0)
}

// P8.1: each new one is one of its own.
func TestNewOnesAreApart(t *testing.T) {
	p, o := plic.New(), plic.New()
	for n := 1; n <= 8; n++ {
		p.Line(n, true)
	}
	for _, at := range places() {
		p.Write(at, 4, 0xfe)
	}
	p.Read(claims(0), 4)
	holds(t, "another one", o, newSets())
	holds(t, "one made later", plic.New(), newSets())
}

// P8.1: Line of no source changes nothing.
func TestLineOfNoSource(t *testing.T) {
	d := dice(87)
	for range 20 {
		p, s := filled(&d)
		for _, n := range noSources() {
			for _, up := range []bool{true, false} {
				if p.Line(n, up) {
					t.Fatalf("Line(%d, %v): true", n, up)
				}
			}
		}
		holds(t, "Line of no source", p, s)
	}
}

// P8.1: Line of each source lets that one come in, and no other one; a line that goes down takes nothing back.
func TestLine(t *testing.T) {
	for n := 1; n <= 8; n++ {
		x := told{t, plic.New()}
		x.line(n, false)
		x.read(waiters, 0)
		for _, up := range []bool{true, true, false, false, true} {
			x.line(n, up)
			x.read(waiters, 1<<n)
		}
	}
}

// P8.1: a source in service doesn't wait, however often its line is raised; out of service, it waits, if the line is up then.
func TestLineInService(t *testing.T) {
	for n := 1; n <= 8; n++ {
		for _, ups := range [][]bool{{}, {true}, {false}, {true, true}, {false, true}, {false, false}, {true, false}, {false, true, false}, {false, true, false, true}} {
			x := told{t, plic.New()}
			x.write(enables(1), 1<<n)
			x.write(priority(n), 1)
			x.line(n, true)
			x.read(claims(1), uint64(n))
			up := true
			for _, up = range ups {
				x.line(n, up)
				x.read(waiters, 0)
				x.pending(0)
			}
			x.write(claims(1), uint64(n))
			x.read(waiters, only(up, 1<<n))
			x.pending(only(up, 0x200))
			x.line(n, true)
			x.read(waiters, 1<<n)
		}
	}
}

// P8.2: the best is of the greatest priority, of such the least, for each three priorities of three sources.
func TestBest(t *testing.T) {
	for c := range 2 {
		for _, ns := range [][3]int{{1, 2, 3}, {8, 1, 4}, {5, 7, 2}, {6, 8, 7}} {
			for trio := range uint64(512) {
				x := told{t, plic.New()}
				x.write(enables(c), 0x1fe)
				var left []uint64
				for i, n := range ns {
					x.line(n, true)
					v := trio >> (3 * i) & 7
					x.write(priority(n), v)
					if v > 0 { // so that the one that comes first is the least number
						left = append(left, (7-v)<<8+uint64(n))
					}
				}
				slices.Sort(left)
				for _, v := range left {
					x.read(claims(c), v%256)
				}
				x.read(claims(c), 0)
			}
		}
	}
}

// P8.2: what isn't enabled, has the priority 0, or doesn't wait, isn't claimed, and stays as it is.
func TestNothingToClaim(t *testing.T) {
	for n := 1; n <= 8; n++ {
		for c := range 2 {
			for _, lacks := range []string{"the enabling", "a priority", "the line"} {
				x := told{t, plic.New()}
				x.write(enables(1-c), 0x1fe)
				if lacks != "the enabling" {
					x.write(enables(c), 1<<n)
				}
				if lacks != "a priority" {
					x.write(priority(n), 7)
				}
				x.line(n, lacks != "the line")
				x.read(claims(c), 0)
				x.read(waiters, only(lacks != "the line", 1<<n))
				x.pending(only(lacks == "the enabling", []uint64{0x200, 0x800}[c]))
			}
		}
	}
}

// P8.2: a source that both contexts want is claimed once.
func TestClaimedForBoth(t *testing.T) {
	for c := range 2 {
		x := told{t, plic.New()}
		x.write(enables(0), 0x1fe)
		x.write(enables(1), 0x1fe)
		x.write(priority(4), 3)
		x.line(4, true)
		x.pending(0xa00)
		x.read(claims(c), 4)
		x.pending(0)
		x.read(claims(1-c), 0)
		x.read(claims(c), 0)
	}
}

// P8.2: a threshold keeps no claim away, but the interrupt.
func TestClaimWhateverTheThreshold(t *testing.T) {
	for threshold := range uint64(8) {
		for v := range uint64(8) {
			for c := range 2 {
				x := told{t, plic.New()}
				x.write(enables(c), 4)
				x.write(priority(2), v)
				x.write(thresholds(c), threshold)
				x.line(2, true)
				x.read(claims(c), only(v > 0, 2))
			}
		}
	}
}

// P8.2: who may let a source leave service: each context that it is enabled for, at that moment.
func TestLeavingService(t *testing.T) {
	for n := 1; n <= 8; n++ {
		for claimer := range 2 {
			for by := range 2 {
				x := told{t, plic.New()}
				x.write(enables(claimer), 1<<n)
				x.write(priority(n), 1)
				x.line(n, true)
				x.read(claims(claimer), uint64(n))
				x.write(enables(by), 0x1fe&^(1<<n))
				x.write(enables(1-by), 0x1fe)
				x.write(claims(by), uint64(n))
				x.read(waiters, 0)
				x.write(enables(by), 1<<n)
				x.write(enables(1-by), 0)
				x.write(claims(by), uint64(n))
				x.read(waiters, 1<<n)
			}
		}
	}
}

// P8.2: with a priority of 0 and any threshold, too, a source leaves service.
func TestLeavingServiceWithoutPriority(t *testing.T) {
	x := told{t, plic.New()}
	x.write(enables(0), 2)
	x.write(priority(1), 1)
	x.line(1, true)
	x.read(claims(0), 1)
	x.write(priority(1), 0)
	x.write(thresholds(0), 7)
	x.write(claims(0), 1)
	x.read(waiters, 2)
	x.pending(0)
}

// P8.2: another number than that of a source in service changes nothing, though its lowest bits be those of one.
func TestLeavingServiceOfAnother(t *testing.T) {
	others := []uint64{0, 9, 10, 16, 32, 64, 128, 256, 1 << 31, math.MaxUint32, 1 << 32, math.MaxUint64}
	for n := uint64(1); n <= 8; n++ {
		for bit := 4; bit < 32; bit++ {
			others = append(others, n+1<<bit)
		}
		others = append(others, math.MaxUint32-15+n)
	}
	d := dice(88)
	for range 100 {
		p, s := filled(&d)
		for c := range 2 {
			for n := 1; n <= 8; n++ {
				if !s.serves[n] && !p.Write(claims(c), 4, uint64(n)) {
					t.Fatalf("%d: false", n)
				}
			}
			for _, v := range others {
				if !p.Write(claims(c), 4, v) {
					t.Fatalf("%#x: false", v)
				}
			}
		}
		holds(t, "others written", p, s)
	}
}

// P8.3: the interrupts, by the best's priority and the threshold of each context.
func TestPending(t *testing.T) {
	for first := range uint64(8) {
		for second := range uint64(8) {
			for low := range uint64(8) {
				for high := range uint64(8) {
					x := told{t, plic.New()}
					x.write(priority(6), first)
					x.write(priority(3), second)
					x.write(enables(0), 1<<6)
					x.write(enables(1), 1<<3)
					x.write(thresholds(0), low)
					x.write(thresholds(1), high)
					x.pending(0)
					x.line(6, true)
					x.line(3, true)
					x.pending(only(first > low, 0x800) + only(second > high, 0x200))
				}
			}
		}
	}
}

// P8.3: the best's priority counts, whichever of the sources it is.
func TestPendingOfTheBest(t *testing.T) {
	for n := 1; n <= 8; n++ {
		for c, bit := range []uint64{0x800, 0x200} {
			x := told{t, plic.New()}
			x.write(enables(c), 0x1fe)
			for o := 1; o <= 8; o++ {
				x.line(o, true)
				x.write(priority(o), 2)
			}
			x.write(thresholds(c), 2)
			x.pending(0)
			x.write(priority(n), 3)
			x.pending(bit)
			x.read(claims(c), uint64(n))
			x.pending(0)
			x.write(thresholds(c), 1)
			x.pending(bit)
		}
	}
}

// P8.4: a copy is alike, goes on alike, and goes its own way; so does what it was made of.
func TestCopy(t *testing.T) {
	d := dice(89)
	for range 200 {
		p, s := filled(&d)
		o, r := p.Copy(), s.copied()
		for range 20 {
			k := turn(&d)
			apply(t, "both, what was copied", p, s, k)
			apply(t, "both, the copy", o, r, k)
		}
		holds(t, "what was copied, gone on", p, s)
		holds(t, "the copy, gone on", o, r)
		for range 20 {
			apply(t, "the copy alone", o, r, turn(&d))
		}
		holds(t, "what was copied, the copy changed", p, s)
		for range 20 {
			apply(t, "what was copied alone", p, s, turn(&d))
		}
		holds(t, "the copy of what was changed", o, r)
		holds(t, "the copy's copy", o.Copy(), r)
	}
	holds(t, "a new one's copy", plic.New().Copy(), newSets())
}

// P8.5: claims of a source, and when it waits or is in service.
func TestWhatFollows(t *testing.T) {
	d := dice(90)
	for range 60 {
		x := told{t, plic.New()}
		s := newSets()
		var claimed [9]bool
		for range 400 {
			k := turn(&d)
			best := s.best(k.context)
			v := apply(t, "many", x.p, s, k)
			switch {
			case k.claims() && v != 0:
				if claimed[v] {
					t.Fatalf("%d is claimed anew, though in service", v)
				}
				if int(v) != best {
					t.Fatalf("%d is claimed, not the best, %d", v, best)
				}
				claimed[v] = true
			case k.finishes():
				on, _ := x.p.Read(enables(k.context), 4)
				if n := k.v % (1 << 32); n < 9 && on>>n&1 == 1 {
					claimed[n] = false
				}
			}
			waits, _ := x.p.Read(waiters, 4)
			for n := 1; n <= 8; n++ {
				if w := waits>>n&1 == 1; w && claimed[n] || !w && !claimed[n] && s.up[n] {
					t.Fatalf("%d: waiting %v, in service %v, line %v", n, w, claimed[n], s.up[n])
				}
			}
		}
	}
}

// P8.1 to P8.5: many calls of all kinds on several of them, each beside sets.
func TestManyBesideSets(t *testing.T) {
	d := dice(91)
	ps := []*plic.Plic{plic.New(), plic.New(), plic.New()}
	ss := []*sets{newSets(), newSets(), newSets()}
	for step := range 30000 {
		i := d.below(3)
		if d.below(100) == 0 {
			o := d.below(3)
			ps[o], ss[o] = ps[i].Copy(), ss[i].copied()
		}
		apply(t, fmt.Sprint("step ", step), ps[i], ss[i], turn(&d))
		if step%20 == 0 {
			holds(t, fmt.Sprint("step ", step), ps[i], ss[i])
		}
	}
}
