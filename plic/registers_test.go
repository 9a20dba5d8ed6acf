package plic_test

import (
	"math"
	"slices"
	"testing"

	"tandem/plic"
)

// P8.2: what is read and written at all places of the device, in all sizes that a hart can ask for.
func TestAllPlaces(t *testing.T) {
	d := dice(81)
	p, s := filled(&d)
	for at := range uint64(0x400010) {
		for _, size := range []int{1, 2, 4, 8} {
			isOne := size == 4 && slices.Contains(places(), at)
			v, ok := p.Read(at, size)
			w := uint64(0)
			if isOne {
				w, _ = s.read(at, 4)
			}
			if v != w || ok != isOne {
				t.Fatalf("Read(%#x, %d): %#x, %v, not %#x, %v", at, size, v, ok, w, isOne)
			}
			if !isOne && p.Write(at, size, 0x5a5a5a5a5a5a5a5a) {
				t.Fatalf("Write(%#x, %d): true", at, size)
			}
		}
	}
	holds(t, "what was read, and refused writes", p, s)
}

// P8.2: places that have a register's lowest bits and others above, and those beside the ends of all numbers.
func TestFarPlaces(t *testing.T) {
	d := dice(82)
	p, s := filled(&d)
	var far []uint64
	for _, at := range places() {
		for bit := range 64 {
			far = append(far, at^1<<bit, at-1<<bit, at+1<<bit)
		}
		far = append(far, at+0x0c000000, -at)
	}
	for _, at := range far {
		if slices.Contains(places(), at) {
			continue
		}
		if v, ok := p.Read(at, 4); v != 0 || ok {
			t.Fatalf("Read(%#x, 4): %#x, %v", at, v, ok)
		}
		if p.Write(at, 4, 3) {
			t.Fatalf("Write(%#x, 4): true", at)
		}
	}
	holds(t, "accesses of no register", p, s)
}

// P8.2: wrong sizes at the registers' places; a claim of such a size claims nothing.
func TestWrongSizes(t *testing.T) {
	d := dice(83)
	p, s := filled(&d)
	for _, at := range places() {
		for _, size := range wrongSizes() {
			if v, ok := p.Read(at, size); v != 0 || ok {
				t.Fatalf("Read(%#x, %d): %#x, %v", at, size, v, ok)
			}
			for v := range uint64(9) {
				if p.Write(at, size, v) {
					t.Fatalf("Write(%#x, %d, %d): true", at, size, v)
				}
			}
		}
	}
	holds(t, "accesses of wrong sizes", p, s)
}

// P8.2: of a priority and a threshold the lowest 3 bits are written, whatever was there; each is one by itself.
func TestLowestThreeBits(t *testing.T) {
	for _, at := range places() {
		if at == 0 || at > 32 && at != thresholds(0) && at != thresholds(1) {
			continue
		}
		for bit := range 64 {
			for _, v := range []uint64{1 << bit, math.MaxUint64 &^ (1 << bit)} {
				p := plic.New()
				for _, o := range plain() {
					p.Write(o, 4, 5)
				}
				if !p.Write(at, 4, v) {
					t.Fatalf("Write(%#x, 4, %#x): false", at, v)
				}
				for _, o := range plain() {
					want := uint64(5)
					switch o {
					case at:
						want = v & 7
					case 0, waiters:
						want = 0
					case enables(0), enables(1):
						want = 4
					}
					if got, ok := p.Read(o, 4); got != want || !ok {
						t.Fatalf("%#x written at %#x: Read(%#x, 4): %#x, %v, not %#x", v, at, o, got, ok, want)
					}
				}
			}
		}
	}
}

// P8.2: the priority of the source 0 stays 0.
func TestPriorityOfNone(t *testing.T) {
	x := told{t, plic.New()}
	for _, v := range []uint64{1, 7, 8, math.MaxUint32, math.MaxUint64} {
		x.write(0, v)
		x.read(0, 0)
	}
	x.write(enables(0), 0x1ff)
	x.pending(0)
	x.read(claims(0), 0)
	x.write(enables(0), 0)
	holds(t, "source 0 written", x.p, newSets())
}

// P8.2: which sources are enabled: the bits 1 to 8 alone, of each context by itself.
func TestEnabledBits(t *testing.T) {
	for c := range 2 {
		for bit := range 64 {
			for _, v := range []uint64{1 << bit, math.MaxUint64 &^ (1 << bit), 0, math.MaxUint64} {
				x := told{t, plic.New()}
				x.write(enables(1-c), 0x0aa)
				x.write(enables(c), 0x154)
				x.write(enables(c), v)
				x.read(enables(c), v&0x1fe)
				x.read(enables(1-c), 0x0aa)
			}
		}
	}
}

// P8.2: which sources wait stays as it is, whatever is written there.
func TestWaitingStays(t *testing.T) {
	d := dice(84)
	for range 100 {
		p, s := filled(&d)
		for _, v := range []uint64{0, 1, 0x1fe, math.MaxUint64, d.next()} {
			if !p.Write(waiters, 4, v) {
				t.Fatal("Write: false")
			}
		}
		holds(t, "0x1000 written", p, s)
	}
}

// P8.2: which sources wait: the bit n for the source n, enabled or not, of a priority or not.
func TestWaitingBits(t *testing.T) {
	for set := range uint64(256) {
		x := told{t, plic.New()}
		for n := 1; n <= 8; n++ {
			x.line(n, set>>(n-1)&1 == 1)
		}
		x.read(waiters, set<<1)
	}
}

// P8.2: of what is written the lowest 4 bytes count alone.
func TestLowestFourBytes(t *testing.T) {
	d := dice(85)
	for range 2000 {
		p, s := filled(&d)
		at := places()[d.below(16)]
		v := d.below(10)
		if d.below(4) == 0 {
			v = d.next() % (1 << 32)
		}
		o := p.Copy()
		if !p.Write(at, 4, v) || !o.Write(at, 4, v+d.next()<<32) {
			t.Fatalf("Write(%#x, 4, %#x): false", at, v)
		}
		s.write(at, 4, v)
		holds(t, "Write", p, s)
		holds(t, "Write with more above", o, s)
	}
}

// R4: what is asked changes nothing, but for claims.
func TestAskingChangesNothing(t *testing.T) {
	d := dice(86)
	for range 50 {
		p, s := filled(&d)
		for range 3 {
			for _, at := range plain() {
				p.Read(at, 4)
			}
			p.Pending()
			p.Copy().Line(1, true)
		}
		holds(t, "the one asked", p, s)
	}
}
