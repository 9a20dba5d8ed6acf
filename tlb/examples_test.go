package tlb_test

import (
	"testing"

	"tandem/tlb"
)

// The chapter's examples, row by row.

func TestExampleOfAPage(t *testing.T) {
	o := made(t, 0)
	e := entry(0x1000, 0, 5)
	o.puts(e)
	o.finds(5, 0x1fff, e)
	o.misses(6, 0x1000)
	o.misses(5, 0x2000)
}

func TestExampleOfAGlobalOne(t *testing.T) {
	o := made(t, 0)
	e := tlb.Entry{At: 0x200000, Level: 1, Space: 5, Global: true, Leaf: 1}
	o.puts(e)
	o.finds(9, 0x3fffff, e)
}

func TestExamplesOfWrongOnes(t *testing.T) {
	o := made(t, 0)
	o.refuses(entry(0x1001, 0, 5))
	o.refuses(entry(0x1000, 1, 5))
	o.refuses(entry(0, 3, 5))
	o.refuses(entry(0, 0, 65536))
	o.holds()
}

func TestExampleOfTheSamePlace(t *testing.T) {
	o := made(t, 0)
	first, g := entry(0x1000, 0, 5), global(entry(0x200000, 1, 5))
	o.puts(first, g)
	again := first
	again.Leaf = 7
	o.puts(again)
	o.holds(again, g)
}

func TestExamplesOfFence(t *testing.T) {
	o := made(t, 0)
	first, g := entry(0x1000, 0, 5), global(entry(0x200000, 1, 5))
	o.puts(first, g)
	o.x.Fence(true, 0x1800, true, 5)
	o.holds(g)
	o.x.Fence(false, 0, true, 5)
	o.holds(g)
}

func TestExampleOfNine(t *testing.T) {
	o := made(t, 0)
	l := pages(9)
	o.puts(l...)
	o.holds(l[8], l[1], l[2], l[3], l[4], l[5], l[6], l[7])
}
