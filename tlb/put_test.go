package tlb_test

import (
	"math"
	"slices"
	"testing"

	"tandem/tlb"
)

// P15.2: each level's page must begin at a multiple of its size.
func TestPutAsksWherePagesBegin(t *testing.T) {
	for level, low := range lows() {
		for _, at := range []uint64{0, 1 << 30, 0xffffffc000000000, math.MaxUint64 >> 30 << 30} {
			for bit := range 64 {
				for _, e := range []tlb.Entry{entry(at^1<<bit, level, 5), global(entry(at^1<<bit, level, 5))} {
					o := made(t, 0)
					if bit < low {
						o.refuses(e)
						o.misses(5, at)
					} else {
						o.puts(e)
						o.finds(5, at^1<<bit, e)
					}
				}
			}
			made(t, 0).refuses(entry(at+1<<low-1, level, 5))
		}
	}
}

// P15.2: levels that there aren't.
func TestPutAsksForTheLevel(t *testing.T) {
	o := made(t, 0)
	for _, level := range wrongLevels() {
		for _, at := range []uint64{0, 1, 0x1000, 1 << 39, 1 << 63} {
			o.refuses(entry(at, level, 5))
			o.refuses(global(entry(at, level, 5)))
		}
	}
	o.holds()
	o.puts(entry(0, 0, 5), entry(0, 1, 5), entry(0, 2, 5))
}

// P15.2: spaces that there aren't, of entries of all spaces, too.
func TestPutAsksForTheSpace(t *testing.T) {
	o := made(t, 0)
	for _, space := range wrongSpaces() {
		for level := range 3 {
			o.refuses(entry(0, level, space))
			o.refuses(global(entry(0, level, space)))
		}
		o.refuses(entry(0, 0, 65536))
	}
	o.holds()
	last := entry(0, 0, 65535)
	o.puts(last, global(last))
	o.holds(last, global(last))
}

// P15.2: what is refused changes neither entries nor the seed, also where the same place is there or all are full.
func TestRefusedOnesChangeNothing(t *testing.T) {
	o, other := made(t, 0), made(t, 0)
	l := pages(20)
	for _, e := range l {
		o.puts(e)
		other.puts(e)
		for _, level := range wrongLevels() {
			o.refuses(entry(e.At, level, 0))
		}
		o.refuses(with(entry(e.At|1, 0, 0), 3))
		o.refuses(with(entry(e.At|0x800, 0, 0), 3))
		o.refuses(with(entry(e.At, 0, 1<<16), 3))
		o.refuses(with(entry(e.At, 0, 1<<63), 3))
		o.holds(other.x.All()...)
	}
}

// unlike are entries none of which is the same place as another one, though each parts from the first one in one thing.
func unlike() []tlb.Entry {
	first := entry(0x40000000, 0, 5)
	return []tlb.Entry{
		first,
		entry(0x40001000, 0, 5),
		entry(0x40000000|1<<63, 0, 5),
		entry(0x40000000, 1, 5),
		entry(0x40000000, 2, 5),
		entry(0x40000000, 0, 6),
		entry(0x40000000, 0, 5|1<<15),
		global(first),
	}
}

// P15.2: At, Level, Global and Space tell places apart; each stands at the least empty place.
func TestPutTellsPlacesApart(t *testing.T) {
	l := unlike()
	o := made(t, 0)
	for n, e := range l {
		l[n].Leaf = uint64(n)
		e.Leaf = uint64(n)
		o.puts(e)
		o.holds(l[:n+1]...)
	}
}

// P15.2: the same place is taken again, wherever it stands, and nothing is given up for it, however often.
func TestPutAtTheSamePlace(t *testing.T) {
	l := unlike()
	o := made(t, 0)
	o.puts(l...)
	d := dice(1504)
	for range 500 {
		n := d.below(8)
		l[n].Leaf = d.next()
		o.puts(l[n])
		o.holds(l...)
	}
	// The seed is still the first one: the places 0, 0 and 4 are given up.
	x, y, z := entry(0, 0, 1), entry(0, 0, 2), entry(0, 0, 3)
	o.puts(x, y, z)
	o.holds(y, l[1], l[2], l[3], z, l[5], l[6], l[7])
}

// P15.2: of entries of all spaces the space doesn't tell places apart; it is kept as it was put last.
func TestPutGlobalOnes(t *testing.T) {
	for level := range 3 {
		o := made(t, 0)
		first, second := entry(0, level, 5), global(entry(0, level, 0))
		o.puts(first, second)
		for _, space := range []uint64{0, 5, 1, 65535, 5} {
			second = with(global(entry(0, level, space)), space)
			o.puts(second)
			o.holds(first, second)
			o.finds(7, 0, second)
			o.finds(5, 0, first)
		}
	}
}

// P15.2: the same place comes first, though there is an empty one below it.
func TestPutPrefersTheSamePlace(t *testing.T) {
	for n := range uint64(8) {
		for gone := range n {
			l := pages(n + 1)
			o := made(t, 0)
			o.puts(l...)
			o.x.Fence(true, l[gone].At, false, 0)
			l[n].Leaf = 9
			o.puts(l[n])
			left := slices.Delete(slices.Clone(l), int(gone), int(gone)+1)
			o.holds(left...)
			l[gone].Leaf = 8
			o.puts(l[gone])
			o.holds(l...)
		}
	}
}

// P15.2: the least empty place, whichever are empty.
func TestPutTakesTheLeastEmptyPlace(t *testing.T) {
	for empty := range 256 {
		o := made(t, 0)
		l := pages(8)
		o.puts(l...)
		for n := range l {
			if empty>>n&1 == 1 {
				o.x.Fence(true, l[n].At, false, 0)
			}
		}
		more := uint64(0)
		for n := range l {
			if empty>>n&1 == 1 {
				l[n] = entry(0x100000+0x1000*more, 0, 1)
				more++
				o.puts(l[n])
			}
		}
		o.holds(l...)
	}
}

// P15.2: which places are given up, by the seed.
func TestPutGivesUp(t *testing.T) {
	for _, row := range []struct {
		seed   uint64
		places [16]int
	}{
		{0, [16]int{0, 0, 4, 3, 3, 4, 0, 2, 3, 3, 5, 2, 0, 0, 7, 1}},
		{1, [16]int{3, 4, 5, 3, 6, 4, 4, 0, 6, 1, 5, 4, 6, 2, 1, 5}},
		{5, [16]int{6, 1, 6, 2, 3, 2, 3, 7, 2, 1, 1, 1, 5, 1, 4, 7}},
		{math.MaxUint64, [16]int{5, 5, 4, 3, 7, 4, 4, 5, 1, 5, 4, 1, 2, 7, 4, 5}},
		{0xdeadbeef, [16]int{5, 1, 4, 3, 3, 2, 3, 1, 5, 4, 6, 1, 0, 7, 0, 2}},
		{1 << 63, [16]int{4, 4, 0, 7, 7, 0, 4, 6, 7, 7, 1, 6, 4, 4, 3, 5}},
	} {
		o := made(t, row.seed)
		l := pages(24)
		held := slices.Clone(l[:8])
		o.puts(held...)
		for n, p := range row.places {
			gone := held[p]
			held[p] = l[8+n]
			o.puts(l[8+n])
			o.holds(held...)
			o.misses(0, gone.At)
			o.finds(0, l[8+n].At, l[8+n])
		}
	}
}

// P15.2: the seed goes on where an entry is given up alone: neither for an empty place nor for a fence.
func TestTheSeedGoesOnSeldom(t *testing.T) {
	o := made(t, 1)
	for range 5 {
		o.puts(pages(8)...)
		o.x.Fence(false, 0, false, 0)
	}
	l := pages(10)
	o.puts(l[:9]...)
	o.holds(l[0], l[1], l[2], l[8], l[4], l[5], l[6], l[7])
	o.x.Fence(true, 0, false, 0)
	o.puts(l[0], l[9])
	o.holds(l[0], l[1], l[2], l[8], l[9], l[5], l[6], l[7])
}

// P15.2: what was given up isn't the same place any more: put again, it stands elsewhere.
func TestGivenUpOnesComeAnew(t *testing.T) {
	o := made(t, 0)
	l := pages(10)
	o.puts(l[:9]...) // the place 0
	o.puts(l[0])     // the place 0, where it had stood
	o.holds(l[:8]...)
	o.misses(0, l[8].At)
	o.puts(l[8]) // the place 4
	o.misses(0, l[4].At)
	o.puts(l[4]) // the place 3
	o.holds(l[0], l[1], l[2], l[4], l[8], l[5], l[6], l[7])
	o.misses(0, l[3].At)
	o.finds(0, l[4].At, l[4])
}
