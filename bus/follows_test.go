package bus_test

import (
	"math"
	"slices"
	"testing"

	"tandem/api"
)

// anyInputs are inputs that may be, of the first cycles, several of a cycle.
func anyInputs(d *dice, cycles uint64) []api.Event {
	var list []api.Event
	for range d.below(200) {
		e := byteIn(int64(d.below(cycles)), byte(d.next()))
		switch d.below(4) {
		case 0:
			e = lineTo(e.Cycle, 1, d.below(2))
		case 1:
			e = lineTo(e.Cycle, 1+int(d.below(8)), d.below(2))
		}
		list = append(list, e)
	}
	slices.SortStableFunc(list, func(a, b api.Event) int { return int(a.Cycle - b.Cycle) })
	return list
}

// anyPlace is where something is, mostly, and a size.
func anyPlace(d *dice) (uint64, int) {
	switch d.below(8) {
	case 0:
		return places()[d.below(uint64(len(places())))], sizes()[d.below(uint64(len(sizes())))]
	case 1:
		return 0x80000000 + d.next()%(1<<20+8)>>(d.below(3)*8), 1 << d.below(4)
	}
	s := spots()[d.below(uint64(len(spots())))]
	return s.at, s.size
}

// anyValue is a number, often one of which few bits are 1.
func anyValue(d *dice) uint64 {
	if d.below(2) == 0 {
		return d.below(10)
	}
	return d.next() >> d.below(64)
}

// P10.1 to P10.6: many calls of all kinds on several of them, each beside its parts.
func TestManyBesideParts(t *testing.T) {
	d := dice(102)
	for range 12 {
		var xs []pair
		for range 3 {
			xs = append(xs, paired(t, api.Setup{Image: row(int(d.below(9000))), Events: anyInputs(&d, 400)}))
		}
		for step := range 3000 {
			x := xs[d.below(3)]
			at, size := anyPlace(&d)
			switch k := d.below(100); {
			case k < 20:
				x.tick()
			case k < 21:
				xs[d.below(3)] = x.copied()
			case k < 25:
				told{t, x.b}.may(kinds()[k%15], at, size, x.r.may(kinds()[k%15], at, size))
			case k < 60:
				x.write(at, size, anyValue(&d))
			case k < 80:
				x.read(kinds()[d.below(4)], at, size)
			case k < 85:
				x.read(kinds()[d.below(15)], at, size)
			default:
				x.read(api.Read, at, size)
			}
			x.alike()
			if step%100 == 0 {
				x.holds()
			}
		}
		for _, x := range xs {
			x.spent()
		}
	}
}

// P10.6: RAM is changed by writes of its own alone: not by inputs, time, other devices or reads.
func TestTheRAMIsChangedByWritesAlone(t *testing.T) {
	d := dice(103)
	image := row(1 << 20)
	x := made(t, api.Setup{Image: image, Events: anyInputs(&d, 300)})
	for range 300 {
		x.b.Tick()
		for range 20 {
			at, size := anyPlace(&d)
			x.b.Read(int(d.below(4)), at, size)
			x.b.May(int(d.below(4)), at, size)
			if at < 0x70000000 {
				x.b.Write(at, size, d.next())
			}
		}
	}
	for i := uint64(0); i < 1<<20; i += 8 {
		want := uint64(0)
		for k := range uint64(8) {
			want |= uint64(image[i+k]) << (8 * k)
		}
		if v, ok := x.b.Read(api.Read, 0x80000000+i, 8); v != want || !ok {
			t.Fatalf("%#x: %#x, %v, not %#x", i, v, ok, want)
		}
	}
}

// P10.6: as long as nothing of the devices is accessed, the time is how many cycles have begun, whatever comes and whatever is done to the RAM.
func TestTheTimeIsHowManyCycles(t *testing.T) {
	d := dice(104)
	x := made(t, api.Setup{Events: anyInputs(&d, 300)})
	for c := range uint64(600) {
		if v := x.b.Time(); v != c {
			t.Fatalf("Time: %d, not %d", v, c)
		}
		x.b.Write(0x80000000+d.below(1<<20), 8, math.MaxUint64)
		x.b.Read(api.Read, 0x80000000+d.below(1<<20), 8)
		x.b.Read(api.Fetch, 0x200bff8, 8)
		x.b.Read(api.Atomic, 0x200bff8, 8)
		x.b.Write(0x200bff8, 2, 0)
		x.b.May(api.Write, 0x200bff8, 8)
		x.b.Tick()
	}
}

// P10.6, R4: two of one setup, to which the same is done, tell the same.
func TestTwoOfOneSetup(t *testing.T) {
	d := dice(105)
	s := api.Setup{Image: row(3000), Events: anyInputs(&d, 300)}
	a, b := made(t, s), made(t, s)
	for range 5000 {
		at, size := anyPlace(&d)
		v := anyValue(&d)
		if d.below(10) == 0 {
			a.b.Tick()
			b.b.Tick()
		}
		if a.b.Write(at, size, v) != b.b.Write(at, size, v) {
			t.Fatalf("Write(%#x, %d, %#x)", at, size, v)
		}
		at, size = anyPlace(&d)
		v, ok := a.b.Read(api.Read, at, size)
		if w, is := b.b.Read(api.Read, at, size); v != w || ok != is {
			t.Fatalf("Read(%#x, %d): %#x, %v and %#x, %v", at, size, v, ok, w, is)
		}
		if a.b.Pending() != b.b.Pending() || a.b.Time() != b.b.Time() || a.b.Cycle() != b.b.Cycle() {
			t.Fatal("not alike")
		}
	}
}
