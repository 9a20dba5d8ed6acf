package tlb_test

import (
	"math"
	"testing"

	"tandem/tlb"
)

// P15.1: all places of a new one are empty, whatever its seed.
func TestNewIsEmpty(t *testing.T) {
	d := dice(1501)
	seeds := []uint64{0, 1, 1 << 63, math.MaxUint64}
	for range 50 {
		seeds = append(seeds, d.next())
	}
	for _, seed := range seeds {
		o := made(t, seed)
		o.holds()
		o.misses(0, 0)
		for range 100 {
			o.misses(d.space(), d.address())
		}
	}
}

// P15.1: each new one is one of its own.
func TestNewOnesAreApart(t *testing.T) {
	o, other := made(t, 3), made(t, 3)
	o.puts(entry(0, 0, 0))
	other.holds()
	other.misses(0, 0)
	made(t, 3).holds()
}

// P15.1: which addresses a page has: those that part from its first one in the lowest bits alone.
func TestFindAllBitsOfAddresses(t *testing.T) {
	for level, low := range lows() {
		for _, at := range []uint64{0, 1 << low, 5 << 30, 0xffffffc000000000, 1<<63 | 1<<40, math.MaxUint64 >> low << low} {
			for _, e := range []tlb.Entry{entry(at, level, 5), global(entry(at, level, 6))} {
				o := made(t, 0)
				o.puts(e)
				o.finds(5, at, e)
				o.finds(5, at|(1<<low-1), e)
				o.misses(5, at-1)
				o.misses(5, at+1<<low)
				for bit := range 64 {
					if bit < low {
						o.finds(5, at^1<<bit, e)
					} else {
						o.misses(5, at^1<<bit)
					}
				}
			}
		}
	}
}

// P15.1: of which spaces an entry is meant: of its own, or of all, also of numbers that no space has.
func TestFindAllBitsOfSpaces(t *testing.T) {
	for level := range 3 {
		for _, space := range []uint64{0, 1, 5, 0x8000, 65535} {
			e := entry(0x40000000, level, space)
			g := global(with(entry(0x80000000, level, space), 2))
			o := made(t, 0)
			o.puts(e, g)
			o.finds(space, 0x40000000, e)
			o.finds(space, 0x80000000, g)
			for bit := range 64 {
				o.misses(space^1<<bit, 0x40000000)
				o.finds(space^1<<bit, 0x80000000, g)
			}
			o.misses(^space, 0x40000000)
			o.finds(^space, 0x80000000, g)
		}
	}
}

// several are entries of unlike levels and spaces that all have the address 0.
func several() []tlb.Entry {
	var l []tlb.Entry
	for level := range 3 {
		l = append(l, with(entry(0, level, 5), uint64(level)), with(global(entry(0, level, 9)), uint64(level)+10))
	}
	return l
}

// P15.1: of several that have the address and are meant, that at the least place, in whatever order they were put, and whatever levels they have.
func TestFindTellsTheLeastPlace(t *testing.T) {
	l := several()
	for n, first := range l {
		for m, second := range l {
			if n == m {
				continue
			}
			o := made(t, 0)
			o.puts(entry(0x7000, 0, 5), first, second)
			o.finds(5, 0x123, first)
			if first.Global {
				o.finds(6, 0x123, first)
			} else if second.Global {
				o.finds(6, 0x123, second)
			} else {
				o.misses(6, 0x123)
			}
		}
	}
}

// P15.1: the place counts, not which one was put last.
func TestFindTellsTheLeastPlaceNotTheLast(t *testing.T) {
	o := made(t, 0)
	small, large := entry(0, 0, 5), with(entry(0, 2, 5), 2)
	o.puts(entry(0x7000, 0, 1), small)
	o.x.Fence(false, 0, true, 1)
	o.puts(large) // at the place 0 now
	o.holds(large, small)
	o.finds(5, 0, large)
	small.Leaf = 3
	o.puts(small) // where it stood
	o.finds(5, 0, large)
	o.finds(5, 0x1000, large)
	o.x.Fence(true, 0x1000, false, 0)
	o.holds(small)
	o.finds(5, 0, small)
	o.misses(5, 0x1000)
}

// P15.1: one that is meant is told, though one at a lesser place has the address and isn't meant.
func TestFindGoesOnBehindOtherSpaces(t *testing.T) {
	o := made(t, 0)
	l := []tlb.Entry{entry(0, 0, 1), entry(0, 0, 2), entry(0, 1, 1), entry(0, 1, 2), entry(0, 2, 3), entry(0, 0, 3), global(entry(0, 2, 1))}
	for n := range l {
		l[n].Leaf = uint64(n)
	}
	o.puts(l...)
	o.finds(1, 0, l[0])
	o.finds(2, 0, l[1])
	o.finds(3, 0, l[4])
	o.finds(4, 0, l[6])
	o.finds(1, 0x1000, l[2])
	o.finds(2, 0x1000, l[3])
	o.finds(2, 0x200000, l[6])
}

// P15.1: an entry is told as it was put, whatever its leaf.
func TestFindTellsAllOfIt(t *testing.T) {
	d := dice(1502)
	for _, leaf := range []uint64{0, 1, 0x200800cf, 1 << 63, math.MaxUint64, d.next()} {
		e := tlb.Entry{At: 0xffffffc000000000, Level: 2, Space: 65535, Leaf: leaf}
		o := made(t, 0)
		o.puts(e, global(e))
		o.finds(65535, 0xffffffc012345678, e)
		o.finds(0, 0xffffffc012345678, global(e))
		o.holds(e, global(e))
	}
}

// P15.1: nothing is changed by Find, neither entries nor the seed.
func TestFindChangesNothing(t *testing.T) {
	d := dice(1503)
	for seed := range uint64(20) {
		o, other := made(t, seed), made(t, seed)
		l := pages(30)
		for n, e := range l {
			for range 10 {
				o.x.Find(d.space(), d.address())
				o.x.Find(0, 0x1000*d.below(30))
				o.x.Find(0, e.At)
			}
			o.puts(e)
			other.puts(e)
			o.holds(other.x.All()...)
			o.finds(0, l[n].At, e)
		}
	}
}
