package tlb_test

import (
	"math"
	"slices"
	"testing"

	"tandem/tlb"
)

// entry is one that isn't global, with Leaf 1.
func entry(at uint64, level int, space uint64) tlb.Entry {
	return tlb.Entry{At: at, Level: level, Space: space, Leaf: 1}
}

// global is the same entry, but of all spaces.
func global(e tlb.Entry) tlb.Entry {
	e.Global = true
	return e
}

// with is the same entry, but with another Leaf.
func with(e tlb.Entry, leaf uint64) tlb.Entry {
	e.Leaf = leaf
	return e
}

// pages are so many entries of the level 0 and the space 0, from the address 0 on.
func pages(many uint64) []tlb.Entry {
	var l []tlb.Entry
	for n := range many {
		l = append(l, entry(0x1000*n, 0, 0))
	}
	return l
}

// told holds answers against those that are asked for.
type told struct {
	t *testing.T
	x *tlb.Tlb
}

func made(t *testing.T, seed uint64) told {
	t.Helper()
	return told{t, tlb.New(seed)}
}

// copied is a copy of it.
func (o told) copied() told {
	o.t.Helper()
	return told{o.t, o.x.Copy()}
}

// puts holds that all of these are kept.
func (o told) puts(l ...tlb.Entry) {
	o.t.Helper()
	for _, e := range l {
		if !o.x.Put(e) {
			o.t.Fatalf("Put(%+v): false", e)
		}
	}
}

// refuses holds that this one isn't, and that all stays.
func (o told) refuses(e tlb.Entry) {
	o.t.Helper()
	before := o.x.All()
	if o.x.Put(e) {
		o.t.Fatalf("Put(%+v): true", e)
	}
	o.holds(before...)
}

func (o told) finds(space, at uint64, want tlb.Entry) {
	o.t.Helper()
	if e, ok := o.x.Find(space, at); e != want || !ok {
		o.t.Fatalf("Find(%d, %#x): %+v, %v, not %+v", space, at, e, ok, want)
	}
}

func (o told) misses(space, at uint64) {
	o.t.Helper()
	if e, ok := o.x.Find(space, at); e != (tlb.Entry{}) || ok {
		o.t.Fatalf("Find(%d, %#x): %+v, %v", space, at, e, ok)
	}
}

// holds holds that just these are there, by rising place.
func (o told) holds(want ...tlb.Entry) {
	o.t.Helper()
	if l := o.x.All(); !slices.Equal(l, want) {
		o.t.Fatalf("All: %+v, not %+v", l, want)
	}
}

// fenced is what is left of entries behind a fence.
func fenced(t *testing.T, l []tlb.Entry, byAt bool, at uint64, bySpace bool, space uint64) told {
	t.Helper()
	o := made(t, 0)
	o.puts(l...)
	o.holds(l...)
	o.x.Fence(byAt, at, bySpace, space)
	return o
}

// lows are how many of an address' lowest bits lie in a page, by its level.
func lows() [3]int {
	return [3]int{12, 21, 30}
}

// wrongLevels are those that no page has; some have a level in their lowest bits.
func wrongLevels() []int {
	return []int{-1, 3, 4, 5, 6, -2, -3, 1 << 8, 1<<8 + 1, 1 << 16, 1 << 32, 1<<32 + 2, 1 << 62, math.MinInt, math.MinInt + 1, math.MaxInt, math.MaxInt - 1}
}

// wrongSpaces are those that there aren't; some have one in their lowest bits.
func wrongSpaces() []uint64 {
	l := []uint64{65537, 65541, math.MaxUint64, math.MaxUint64 - 65535, math.MaxUint32, math.MaxInt64}
	for bit := 16; bit < 64; bit++ {
		l = append(l, 1<<bit, 1<<bit|5)
	}
	return l
}

// dice tells numbers, always the same ones.
type dice uint64

func (d *dice) next() uint64 {
	*d += 0x9e3779b97f4a7c15
	z := uint64(*d)
	z = (z ^ z>>30) * 0xbf58476d1ce4e5b9
	z = (z ^ z>>27) * 0x94d049bb133111eb
	return z ^ z>>31
}

func (d *dice) below(n uint64) uint64 {
	return d.next() % n
}

// one tells whether something that is so once in many times is so now.
func (d *dice) one(in uint64) bool {
	return d.below(in) == 0
}

// address is one of few pages of each level, beside their ends, low or high.
func (d *dice) address() uint64 {
	bases := []uint64{0, 0x200000, 0x40000000, 0xffffffc000000000, 0xffffffffc0000000, 1 << 63}
	steps := []uint64{0, 0x1000, 0x1ff000, 0x200000, 0x3fe00000, 0xfff}
	at := bases[d.below(6)] + steps[d.below(6)] + d.below(3) - 1
	if d.one(20) {
		at ^= 1 << d.below(64)
	}
	return at
}

// space is one of few, seldom one that there isn't.
func (d *dice) space() uint64 {
	if d.one(15) {
		l := wrongSpaces()
		return l[d.below(uint64(len(l)))]
	}
	return []uint64{0, 1, 65535}[d.below(3)]
}

// entry is any, seldom one that may not be kept.
func (d *dice) entry() tlb.Entry {
	e := tlb.Entry{Level: int(d.below(3)), Space: d.space(), Global: d.one(3), Leaf: d.next()}
	e.At = d.address() >> lows()[e.Level] << lows()[e.Level]
	if d.one(15) {
		e.At ^= 1 << d.below(30)
	}
	if d.one(15) {
		l := wrongLevels()
		e.Level = l[d.below(uint64(len(l)))]
	}
	return e
}
