package clint_test

import (
	"math"
	"slices"
	"testing"

	"tandem/clint"
)

// P7.1: New.
func TestNew(t *testing.T) {
	holds(t, "New", clint.New(), newRows())
	c := clint.New()
	for _, x := range []struct {
		at   uint64
		size int
		want uint64
	}{{0, 4, 0}, {0xbff8, 8, 0}, {0x4000, 8, math.MaxUint64}} {
		if v, ok := c.Read(x.at, x.size); v != x.want || !ok {
			t.Errorf("Read(%#x, %d): %#x, %v", x.at, x.size, v, ok)
		}
	}
	if v, p := c.Time(), c.Pending(); v != 0 || p != 0 {
		t.Errorf("Time %#x, Pending %#x", v, p)
	}
}

// P7.1: each new one is one of its own.
func TestNewOnesAreApart(t *testing.T) {
	c, o := clint.New(), clint.New()
	for _, a := range accesses() {
		c.Write(a.at, a.size, 5)
	}
	c.Tick()
	holds(t, "another one", o, newRows())
	holds(t, "one made later", clint.New(), newRows())
}

// P7.1: Tick and Time, behind 2^32 - 1 and 2^64 - 1, too; all else stays.
func TestTick(t *testing.T) {
	for _, from := range []uint64{0, 1, 0xff, 0xfffffffe, 0xffffffff, 1 << 32, 1<<63 - 1, 1 << 63, math.MaxUint64 - 2, math.MaxUint64} {
		c, r := filled(1, 0x123456789abcdef0, from)
		for k := range uint64(600) {
			if v := c.Time(); v != from+k {
				t.Fatalf("%#x and %d ticks: %#x", from, k, v)
			}
			holds(t, "Tick", c, r)
			c.Tick()
			r.tick()
		}
	}
	c := clint.New()
	c.Write(0xbff8, 8, math.MaxUint64)
	c.Tick()
	if v := c.Time(); v != 0 {
		t.Errorf("behind 2^64 - 1: %#x", v)
	}
}

// P7.2: what is read and written at all places of the device, in all sizes of 1 to 16 bytes.
func TestAllPlaces(t *testing.T) {
	c, r := filled(1, 0x8877665544332211, 0x99aabbccddeeff00)
	there := 0
	for at := range uint64(0x10010) {
		for size := range 17 {
			a := access{at, size}
			v, ok := c.Read(at, size)
			if w, is := r.read(a); v != w || ok != is {
				t.Fatalf("Read(%#x, %d): %#x, %v, not %#x, %v", at, size, v, ok, w, is)
			}
			if slices.Contains(accesses(), a) {
				there++
			} else if c.Write(at, size, 0) || c.Write(at, size, math.MaxUint64) {
				t.Fatalf("Write(%#x, %d): true", at, size)
			}
		}
	}
	if there != 7 {
		t.Errorf("%d registers", there)
	}
	holds(t, "what was read, and refused writes", c, r)
}

// farPlaces are those that have a register's lowest bits and others above, and those beside the ends of all numbers.
func farPlaces() []uint64 {
	var l []uint64
	for _, a := range accesses() {
		for bit := range 64 {
			l = append(l, a.at^1<<bit, a.at-1<<bit)
		}
		l = append(l, a.at+0x02000000, -a.at)
	}
	for k := range uint64(9) {
		l = append(l, k, -k, 1<<63+k, 1<<32-k)
	}
	return l
}

// P7.2: wrong places and sizes.
func TestNoRegister(t *testing.T) {
	c, r := filled(0, 0x0102030405060708, 0x1112131415161718)
	for _, at := range farPlaces() {
		for _, size := range sizes() {
			a := access{at, size}
			v, ok := c.Read(at, size)
			if w, is := r.read(a); v != w || ok != is {
				t.Fatalf("Read(%#x, %d): %#x, %v, not %#x, %v", at, size, v, ok, w, is)
			}
			if !slices.Contains(accesses(), a) && c.Write(at, size, math.MaxUint64) {
				t.Fatalf("Write(%#x, %d): true", at, size)
			}
		}
	}
	holds(t, "refused writes", c, r)
}

// P7.2: of what is written the lowest bytes count alone, of msip the lowest bit; all else stays.
func TestWriteTouchesItsOwnAlone(t *testing.T) {
	d := dice(71)
	for _, under := range []uint64{0, math.MaxUint64, 0x5566778899aabbcc} {
		for _, a := range accesses() {
			for range 200 {
				v := d.any()
				c, r := filled(under, under, ^under)
				if !c.Write(a.at, a.size, v) {
					t.Fatalf("Write(%#x, %d): false", a.at, a.size)
				}
				r.write(a, v)
				holds(t, "Write", c, r)
			}
		}
	}
}

// P7.2: each bit of msip by itself.
func TestMsipIsOneBit(t *testing.T) {
	c := clint.New()
	for bit := range 64 {
		want := uint64(0)
		if bit == 0 {
			want = 1
		}
		for _, v := range []uint64{1 << bit, math.MaxUint64 &^ (1 << bit)} {
			if !c.Write(0, 4, v) {
				t.Fatal("Write: false")
			}
			if got, ok := c.Read(0, 4); got != want || !ok {
				t.Errorf("%#x: %#x, %v", v, got, ok)
			}
			want = 1 - want
		}
	}
}

// P7.2: the halves of a register are those of its whole.
func TestHalves(t *testing.T) {
	c, d := clint.New(), dice(72)
	for _, at := range []uint64{0x4000, 0xbff8} {
		for range 300 {
			low, high := d.any(), d.any()
			c.Write(at, 4, low)
			c.Write(at+4, 4, high)
			if v, ok := c.Read(at, 8); v != high<<32+low%(1<<32) || !ok {
				t.Fatalf("%#x of %#x and %#x: %#x, %v", at, low, high, v, ok)
			}
			c.Write(at, 8, low)
			l, _ := c.Read(at, 4)
			h, _ := c.Read(at+4, 4)
			if l != low%(1<<32) || h != low>>32 {
				t.Fatalf("%#x of %#x: %#x and %#x", at, low, l, h)
			}
		}
	}
}

// P7.3: the time and the alarm around each other, both without a sign, with msip 0 and 1.
func TestPending(t *testing.T) {
	edges := []uint64{0, 1, 2, 0x7fffffff, 0x80000000, 0xffffffff, 1 << 32, 1<<32 + 1, 2<<32 - 1, 1<<63 - 1, 1 << 63, 1<<63 + 1, math.MaxUint64 - 1, math.MaxUint64}
	for _, time := range edges {
		for _, alarm := range edges {
			for msip := range uint64(2) {
				c, _ := filled(msip, alarm, time)
				want := 8 * msip
				if time >= alarm {
					want += 128
				}
				if v := c.Pending(); v != want {
					t.Fatalf("msip %d, alarm %#x, time %#x: %#x", msip, alarm, time, v)
				}
			}
		}
	}
}

// P7.3: the line rises with the time, falls as the time comes round or the alarm is set later, and rises again.
func TestPendingGoesOn(t *testing.T) {
	c := clint.New()
	is := func(what string, want uint64) {
		t.Helper()
		if v := c.Pending(); v != want {
			t.Errorf("%s: %#x", what, v)
		}
	}
	c.Write(0xbff8, 8, math.MaxUint64-1)
	is("ahead of the latest alarm", 0)
	c.Tick()
	is("at the latest alarm", 0x80)
	c.Tick()
	is("the time came round", 0)
	c.Write(0x4000, 8, 0)
	is("the alarm at the time", 0x80)
	c.Write(0x4004, 4, 1)
	is("the alarm's upper half", 0)
	c.Write(0xbffc, 4, 1)
	is("the time's upper half", 0x80)
	c.Write(0x4000, 4, 1)
	is("the alarm one later", 0)
	c.Write(0, 4, 1)
	is("msip", 8)
	c.Tick()
	is("msip and the time", 0x88)
	c.Write(0, 4, 0xfffffffe)
	is("msip taken back", 0x80)
}

// P7.4: a copy is alike, goes on alike, and goes its own way; so does what it was made of.
func TestCopy(t *testing.T) {
	c, r := filled(1, 0x100000002, 0x0fffffffe)
	o, s := c.Copy(), r.copied()
	for range 8 {
		holds(t, "what was copied", c, r)
		holds(t, "the copy", o, s)
		c.Tick()
		r.tick()
		o.Tick()
		s.tick()
	}
	for _, a := range accesses() {
		o.Write(a.at, a.size, 0x1234)
		s.write(a, 0x1234)
		holds(t, "what was copied, the copy written", c, r)
		holds(t, "the copy written", o, s)
	}
	o.Tick()
	s.tick()
	holds(t, "what was copied, the copy ticked", c, r)
	for _, a := range accesses() {
		c.Write(a.at, a.size, 0x4321)
		r.write(a, 0x4321)
		holds(t, "what was copied, written", c, r)
		holds(t, "the copy of what was written", o, s)
	}
	c.Tick()
	r.tick()
	holds(t, "what was copied, in the end", c, r)
	holds(t, "the copy, in the end", o, s)
	holds(t, "the copy's copy", o.Copy(), s)
	holds(t, "a new one's copy", clint.New().Copy(), newRows())
}

// P7.1 to P7.4: many calls of all kinds on several of them, each beside rows of bytes.
func TestManyBesideRows(t *testing.T) {
	d := dice(73)
	cs := []*clint.Clint{clint.New(), clint.New(), clint.New()}
	rs := []rows{newRows(), newRows(), newRows()}
	for step := range 60000 {
		i := d.below(3)
		a := accesses()[d.below(7)]
		switch d.below(8) {
		case 0:
			a.size = sizes()[d.below(uint64(len(sizes())))]
		case 1:
			a.at += d.below(17) - 8
		}
		switch k := d.below(100); {
		case k < 1:
			o := d.below(3)
			cs[o], rs[o] = cs[i].Copy(), rs[i].copied()
		case k < 30:
			cs[i].Tick()
			rs[i].tick()
		case k < 70:
			v := d.any()
			if cs[i].Write(a.at, a.size, v) != rs[i].write(a, v) {
				t.Fatalf("%d: Write(%#x, %d)", step, a.at, a.size)
			}
		default:
			v, ok := cs[i].Read(a.at, a.size)
			if w, is := rs[i].read(a); v != w || ok != is {
				t.Fatalf("%d: Read(%#x, %d): %#x, %v, not %#x, %v", step, a.at, a.size, v, ok, w, is)
			}
		}
		holds(t, "many", cs[i], rs[i])
	}
}

// R4: what is asked changes nothing.
func TestAskingChangesNothing(t *testing.T) {
	c, r := filled(1, 7, 7)
	for range 3 {
		for _, a := range accesses() {
			c.Read(a.at, a.size)
		}
		c.Time()
		c.Pending()
		c.Copy().Tick()
		holds(t, "the one asked", c, r)
	}
}
