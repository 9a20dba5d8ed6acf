package tlb_test

import (
	"slices"
	"testing"

	"tandem/tlb"
)

// P15.5: what was put is found at once, or what stands ahead of it, has the address and is meant there; and till a fence lets it go or another one is put.
func TestWhatWasPutIsFound(t *testing.T) {
	d := dice(1505)
	kept := 0
	for range 300 {
		o := made(t, d.next())
		for range 60 {
			e := d.entry()
			if !o.x.Put(e) {
				continue
			}
			l := o.x.All()
			p := slices.Index(l, e)
			if p < 0 {
				t.Fatalf("%+v isn't there: %+v", e, l)
			}
			for _, at := range []uint64{e.At, e.At + span(e.Level) - 1, e.At + d.below(span(e.Level))} {
				f, ok := o.x.Find(e.Space, at)
				q := slices.Index(l, f)
				if !ok || q < 0 || q > p || !in(f, at) || !f.Global && f.Space != e.Space {
					t.Fatalf("Find(%d, %#x): %+v, %v of %+v", e.Space, at, f, ok, l)
				}
			}
			kept++
		}
	}
	if kept < 10000 {
		t.Errorf("%d entries", kept)
	}
}

// P15.5: one that stands alone is found until it goes.
func TestOneIsFoundUntilItGoes(t *testing.T) {
	d := dice(1506)
	for range 3000 {
		e := d.entry()
		o := made(t, d.next())
		if !o.x.Put(e) {
			o.holds()
			continue
		}
		o.finds(e.Space, e.At+d.below(span(e.Level)), e)
		o.x.Fence(true, e.At+span(e.Level), false, 0)
		o.x.Fence(true, e.At-1, false, 0)
		o.x.Fence(false, 0, true, e.Space^1)
		o.finds(e.Space, e.At, e)
		o.x.Fence(true, e.At, d.one(2) && !e.Global, e.Space)
		o.misses(e.Space, e.At)
	}
}

// P15.5: one goes at a time, where an entry is put and none is empty: all others are found still.
func TestOneIsGivenUpForOne(t *testing.T) {
	d := dice(1507)
	for range 300 {
		o := made(t, d.next())
		o.puts(pages(8)...)
		for n := range uint64(60) {
			before := o.x.All()
			e := entry(0x100000+0x1000*n, 0, 0)
			o.puts(e)
			after := o.x.All()
			others := 0
			for p, f := range after {
				if f != before[p] {
					others++
					o.misses(0, before[p].At)
				}
				o.finds(0, f.At, f)
			}
			if others != 1 || len(after) != 8 {
				t.Fatalf("%+v, then %+v", before, after)
			}
		}
	}
}

// P15.5: what is found was put, as it was put last.
func TestWhatIsFoundWasPut(t *testing.T) {
	d := dice(1508)
	found := 0
	for range 100 {
		o := made(t, d.next())
		last := map[tlb.Entry]uint64{} // by all but the leaf, and of those of all spaces the space
		for range 200 {
			e := d.entry()
			if o.x.Put(e) {
				last[spot(e)] = e.Leaf
			}
			for range 5 {
				space, at := d.space(), d.address()
				f, ok := o.x.Find(space, at)
				if !ok {
					continue
				}
				found++
				if leaf, put := last[spot(f)]; !put || leaf != f.Leaf {
					t.Fatalf("Find(%d, %#x): %+v wasn't put so", space, at, f)
				}
			}
		}
	}
	if found < 5000 {
		t.Errorf("%d found", found)
	}
}

// spot is an entry without what doesn't tell places apart.
func spot(e tlb.Entry) tlb.Entry {
	e.Leaf = 0
	if e.Global {
		e.Space = 0
	}
	return e
}

// P15.5: behind a fence of an address in a space nothing is found there but what is global or was put later.
func TestNothingIsFoundBehindAFence(t *testing.T) {
	d := dice(1509)
	globals := 0
	for range 3000 {
		o := made(t, d.next())
		for range 12 {
			o.x.Put(d.entry())
		}
		space, at := d.space(), d.address()
		o.x.Fence(true, at, true, space)
		if f, ok := o.x.Find(space, at); ok && !f.Global {
			t.Fatalf("Find(%d, %#x): %+v", space, at, f)
		} else if ok {
			globals++
			o.x.Fence(true, at, false, 0)
		}
		o.misses(space, at)
		if space > 65535 {
			continue
		}
		later := entry(at>>12<<12, 0, space)
		o.puts(later)
		o.finds(space, at, later)
	}
	if globals < 100 {
		t.Errorf("%d global ones", globals)
	}
}
