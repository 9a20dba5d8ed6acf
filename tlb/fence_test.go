package tlb_test

import (
	"math"
	"slices"
	"testing"

	"tandem/tlb"
)

// many are entries of which each fence lets others go.
func many() []tlb.Entry {
	return []tlb.Entry{
		entry(0x1000, 0, 5),
		entry(0x1000, 0, 6),
		global(entry(0x1000, 0, 5)),
		entry(0, 1, 5),
		global(entry(0, 2, 6)),
		entry(0x40000000, 2, 5),
		entry(0x2000, 0, 0),
		global(entry(0x2000, 0, 0)),
	}
}

// left are those of many with these numbers.
func left(numbers ...int) []tlb.Entry {
	var l []tlb.Entry
	for _, n := range numbers {
		l = append(l, many()[n])
	}
	return l
}

// P15.3: by neither: all go, those of all spaces, too, whatever numbers are beside.
func TestFenceOfAll(t *testing.T) {
	for _, at := range []uint64{0, 0x1000, 1, math.MaxUint64} {
		for _, space := range []uint64{0, 5, 65536, math.MaxUint64} {
			o := fenced(t, many(), false, at, false, space)
			o.holds()
			for _, e := range many() {
				o.misses(e.Space, e.At)
			}
		}
	}
}

// P15.3: by an address, by a space, by both.
func TestFenceOfSome(t *testing.T) {
	for _, row := range []struct {
		byAt    bool
		at      uint64
		bySpace bool
		space   uint64
		left    []int
	}{
		{true, 0x1000, false, 5, []int{5, 6, 7}},
		{true, 0x1fff, false, 99, []int{5, 6, 7}},
		{true, 0xfff, false, 0, []int{0, 1, 2, 5, 6, 7}},
		{true, 0x2000, false, 0, []int{0, 1, 2, 5}},
		{true, 0x1fffff, false, 0, []int{0, 1, 2, 5, 6, 7}},
		{true, 0x200000, false, 0, []int{0, 1, 2, 3, 5, 6, 7}},
		{true, 0x3fffffff, false, 0, []int{0, 1, 2, 3, 5, 6, 7}},
		{true, 0x40000000, false, 0, []int{0, 1, 2, 3, 4, 6, 7}},
		{true, 0x7fffffff, false, 0, []int{0, 1, 2, 3, 4, 6, 7}},
		{true, 0x80000000, false, 0, []int{0, 1, 2, 3, 4, 5, 6, 7}},
		{true, 1 << 63, false, 0, []int{0, 1, 2, 3, 4, 5, 6, 7}},
		{false, 0x1000, true, 5, []int{1, 2, 4, 6, 7}},
		{false, 0, true, 6, []int{0, 2, 3, 4, 5, 6, 7}},
		{false, 7, true, 0, []int{0, 1, 2, 3, 4, 5, 7}},
		{false, 0, true, 1, []int{0, 1, 2, 3, 4, 5, 6, 7}},
		{false, 0, true, 65541, []int{0, 1, 2, 3, 4, 5, 6, 7}},
		{true, 0x1800, true, 5, []int{1, 2, 4, 5, 6, 7}},
		{true, 0x1800, true, 6, []int{0, 2, 3, 4, 5, 6, 7}},
		{true, 0x1800, true, 0, []int{0, 1, 2, 3, 4, 5, 6, 7}},
		{true, 0x2fff, true, 0, []int{0, 1, 2, 3, 4, 5, 7}},
		{true, 0x5000, true, 5, []int{0, 1, 2, 4, 5, 6, 7}},
		{true, 0x50000000, true, 5, []int{0, 1, 2, 3, 4, 6, 7}},
		{true, 0x50000000, true, 6, []int{0, 1, 2, 3, 4, 5, 6, 7}},
	} {
		o := fenced(t, many(), row.byAt, row.at, row.bySpace, row.space)
		o.holds(left(row.left...)...)
	}
}

// P15.3: which addresses a page has, by all bits.
func TestFenceAllBitsOfAddresses(t *testing.T) {
	for level, low := range lows() {
		for _, e := range []tlb.Entry{entry(0xffffffc000000000, level, 5), global(entry(1<<30, level, 5))} {
			l := []tlb.Entry{e}
			for bit := range 64 {
				o := fenced(t, l, true, e.At^1<<bit, false, 0)
				both := fenced(t, l, true, e.At^1<<bit, true, 5)
				if bit >= low {
					o.holds(e)
					both.holds(e)
					continue
				}
				o.holds()
				if e.Global {
					both.holds(e)
				} else {
					both.holds()
				}
			}
		}
	}
}

// P15.3: which space it is, by all bits; what is of all spaces stays.
func TestFenceAllBitsOfSpaces(t *testing.T) {
	for _, space := range []uint64{0, 5, 65535} {
		l := []tlb.Entry{entry(0, 0, space), global(entry(0, 0, space))}
		fenced(t, l, false, 0, true, space).holds(l[1])
		fenced(t, l, true, 0, true, space).holds(l[1])
		for bit := range 64 {
			fenced(t, l, false, 0, true, space^1<<bit).holds(l...)
			fenced(t, l, true, 0, true, space^1<<bit).holds(l...)
		}
	}
}

// P15.3: the places of those that went are empty then, those of the others aren't moved.
func TestFenceEmptiesPlaces(t *testing.T) {
	o := fenced(t, many(), true, 0x1000, false, 0) // the places 0 to 4
	want := left(5, 6, 7)
	for n := range uint64(5) {
		e := entry(0x100000*(n+1), 0, n)
		o.puts(e)
		want = slices.Insert(want, int(n), e)
		o.holds(want...)
	}
}

// P15.3: what went isn't found, and may come anew, at another place.
func TestFencedOnesComeAnew(t *testing.T) {
	l := pages(8)
	o := fenced(t, l, true, 0x3000, false, 0)
	o.misses(0, 0x3000)
	o.x.Fence(true, 0x1000, false, 0)
	again := with(l[3], 5)
	o.puts(again)
	o.holds(l[0], again, l[2], l[4], l[5], l[6], l[7])
	o.finds(0, 0x3000, again)
	o.puts(l[1])
	o.holds(l[0], again, l[2], l[1], l[4], l[5], l[6], l[7])
}

// P15.3: a fence of nothing, and of an empty one, changes nothing.
func TestFenceOfNone(t *testing.T) {
	o := made(t, 0)
	for _, byAt := range []bool{false, true} {
		for _, bySpace := range []bool{false, true} {
			o.x.Fence(byAt, 0, bySpace, 0)
			o.holds()
		}
	}
	l := pages(9)
	l[0].Space = 3
	o.puts(l[1:]...)
	// An empty place is none of the page at 0 in the space 0, and a fence of that leaves what stands elsewhere.
	o.x.Fence(true, 0, true, 0)
	o.holds(l[1:]...)
	o.puts(l[0]) // the place 0: the seed is the first one still
	o.holds(l[0], l[2], l[3], l[4], l[5], l[6], l[7], l[8])
}

// P15.2, P15.3: an entry that is all zeros is one like others, wherever it stands, and an empty place isn't one.
func TestAnEntryOfZeros(t *testing.T) {
	o := made(t, 0)
	zero := tlb.Entry{}
	o.misses(0, 0)
	o.puts(entry(0x1000, 0, 1), entry(0x2000, 0, 1), zero)
	o.finds(0, 0xfff, zero)
	o.x.Fence(true, 0x1000, false, 0)
	o.finds(0, 0xfff, zero)
	o.puts(zero)
	o.holds(entry(0x2000, 0, 1), zero)
	o.puts(entry(0x3000, 0, 1))
	o.finds(0, 0xfff, zero)
	o.puts(zero)
	o.holds(entry(0x3000, 0, 1), entry(0x2000, 0, 1), zero)
	o.x.Fence(true, 0, true, 0)
	o.misses(0, 0)
	o.holds(entry(0x3000, 0, 1), entry(0x2000, 0, 1))
}
