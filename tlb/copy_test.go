package tlb_test

import (
	"testing"

	"tandem/tlb"
)

// P15.4: All tells what is there; new memory each time, the room behind it too.
func TestAllIsNewMemory(t *testing.T) {
	for n := range uint64(9) {
		o := made(t, 0)
		l := pages(n)
		o.puts(l...)
		a, b := o.x.All(), o.x.All()
		for _, x := range [][]tlb.Entry{a, b} {
			x = x[:cap(x)]
			for i := range x {
				x[i] = entry(0x7000, 0, 7)
			}
			o.holds(l...)
		}
		for _, e := range l {
			o.finds(0, e.At, e)
		}
	}
}

// P15.4: what All told stays as it was told.
func TestAllStays(t *testing.T) {
	o := made(t, 0)
	l := many()
	o.puts(l...)
	list := o.x.All()
	o.puts(with(l[0], 9))
	o.x.Fence(false, 0, false, 0)
	o.puts(pages(8)...)
	for n, e := range list {
		if e != l[n] {
			t.Errorf("%d: %+v", n, e)
		}
	}
}

// P15.4: the order is that of the places, not that of the calls.
func TestAllGoesByPlaces(t *testing.T) {
	l := pages(8)
	o := made(t, 0)
	o.puts(l...)
	for _, n := range []int{6, 1, 3} {
		o.x.Fence(true, l[n].At, false, 0)
	}
	o.holds(l[0], l[2], l[4], l[5], l[7])
	more := []tlb.Entry{entry(0, 2, 1), entry(0x90000000, 0, 2), entry(0, 0, 3)}
	o.puts(more...)
	o.holds(l[0], more[0], l[2], more[1], l[4], l[5], more[2], l[7])
}

// P15.4: a copy has the same entries at the same places, and the same seed.
func TestCopyGoesOnAlike(t *testing.T) {
	for seed := range uint64(30) {
		for n := range uint64(20) {
			o := made(t, seed)
			o.puts(pages(n)...)
			if n%3 == 1 {
				o.x.Fence(true, 0x1000, false, 0)
			}
			c := o.copied()
			c.holds(o.x.All()...)
			for m := range uint64(20) {
				e := entry(0x100000+0x1000*m, 0, 1)
				o.puts(e)
				c.puts(e)
				c.holds(o.x.All()...)
				c.finds(1, e.At, e)
			}
		}
	}
}

// P15.4: what is done to the one isn't seen in the other one, in whatever order, copies of copies too.
func TestCopiesAreApart(t *testing.T) {
	l := many()
	changes := []func(x *tlb.Tlb){
		func(x *tlb.Tlb) { x.Put(with(l[0], 9)) },
		func(x *tlb.Tlb) { x.Put(with(l[7], 9)) },
		func(x *tlb.Tlb) { x.Put(entry(0x9000, 0, 1)) },
		func(x *tlb.Tlb) { x.Fence(false, 0, false, 0) },
		func(x *tlb.Tlb) { x.Fence(true, 0x1000, false, 0) },
		func(x *tlb.Tlb) { x.Fence(false, 0, true, 5); x.Put(entry(0x9000, 0, 1)) },
	}
	holds := func(o told) {
		t.Helper()
		o.holds(l...)
		for _, e := range []tlb.Entry{l[0], l[1], l[5]} {
			o.finds(e.Space, e.At, e)
		}
		o.finds(7, 0x1000, l[2])
		o.misses(1, 0x40000000)
		o.misses(1, 0x80009000)
		c := o.copied()
		x := entry(0x80009000, 0, 1)
		c.puts(x) // the seed is the first one still: the place 0
		c.holds(append([]tlb.Entry{x}, l[1:]...)...)
	}
	for _, change := range changes {
		o := made(t, 0)
		o.puts(l...)
		c := o.copied()
		d := c.copied()
		change(o.x)
		holds(c)
		holds(d)
		change(c.x)
		holds(d)
		c.holds(o.x.All()...)
		e := d.copied()
		change(d.x)
		holds(e)
		d.holds(o.x.All()...)
	}
}

// P15.4: a copy of one that is empty.
func TestCopyOfAnEmptyOne(t *testing.T) {
	o := made(t, 5)
	c := o.copied()
	c.holds()
	c.puts(pages(9)...)
	o.holds()
	o.misses(0, 0x1000)
	l := pages(9)
	c.holds(l[0], l[1], l[2], l[3], l[4], l[5], l[8], l[7])
	o.puts(l...)
	o.holds(c.x.All()...)
}

// R3: what is handed in isn't kept: the entry may be changed behind Put.
func TestEntriesAreNotKept(t *testing.T) {
	o := made(t, 0)
	e := entry(0x1000, 0, 5)
	o.puts(e)
	f, _ := o.x.Find(5, 0x1000)
	f.Leaf = 3
	e.Leaf = 4
	o.finds(5, 0x1000, entry(0x1000, 0, 5))
	o.holds(entry(0x1000, 0, 5))
}

// R4: a tlb that was told the same answers the same.
func TestAnswersAgain(t *testing.T) {
	for seed := range uint64(30) {
		o, other := made(t, seed), made(t, seed)
		d, again := dice(seed), dice(seed)
		for range 300 {
			e := d.entry()
			if again.entry() != e || o.x.Put(e) != other.x.Put(e) {
				t.Fatalf("Put(%+v)", e)
			}
			other.holds(o.x.All()...)
		}
	}
}
