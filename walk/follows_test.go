package walk_test

import (
	"bytes"
	"testing"

	"tandem/api"
	"tandem/walk"
)

// P14.5: two addresses of one page that are judged alike differ as their physical ones do, and what is told of the page is the same.
func TestAddressesOfOnePage(t *testing.T) {
	o := dice(1405)
	pairs := 0
	for range 30 {
		n := o.world()
		b := n.bus(t)
		for range 1500 {
			n.c = o.registers()
			mode, kind, at := o.among(modes(), 3), o.among(kinds(), 4), o.address()
			l, cause := walk.Walk(b, &n.c, mode, kind, at)
			if cause != 0 || l.Level < 0 {
				continue
			}
			size := uint64(4096) << (9 * l.Level)
			other := at - at%size + o.below(size)
			m, cause := walk.Walk(b, &n.c, mode, kind, other)
			if cause != 0 || m.Address-l.Address != other-at || m.Level != l.Level || m.Entry != l.Entry || m.From != l.From {
				t.Fatalf("%#x to %#x, but %#x to %#x, %d", at, l, other, m, cause)
			}
			pairs++
		}
	}
	if pairs < 1000 {
		t.Errorf("%d pairs", pairs)
	}
}

// P14.5: what Walk tells stands in the RAM as it tells it, also behind a store.
func TestTellsWhatStands(t *testing.T) {
	o := dice(1406)
	leaves := 0
	for range 30 {
		n := o.world()
		b := n.bus(t)
		for range 1500 {
			n.c = o.registers()
			mode, kind, at := o.among(modes(), 3), o.among(kinds(), 4), o.address()
			l, cause := walk.Walk(b, &n.c, mode, kind, at)
			if cause != 0 || l.Level < 0 {
				continue
			}
			if e, ok := b.Read(api.Read, l.From, 8); !ok || e != l.Entry {
				t.Fatalf("%#x: at %#x stands %#x, %v", l, l.From, e, ok)
			}
			leaves++
			b.Write(l.From, 8, l.Entry&^v)
			if m, cause := walk.Walk(b, &n.c, mode, kind, at); m != (walk.Leaf{}) || cause != pageFaults[counted(kind)] {
				t.Fatalf("%#x without V: %#x, %d", l, m, cause)
			}
			b.Write(l.From, 8, l.Entry)
		}
	}
	if leaves < 1000 {
		t.Errorf("%d leaves", leaves)
	}
}

// P14.5: without a scheme, or in the mode M, an address is its own physical one.
func TestOwnAddresses(t *testing.T) {
	o := dice(1407)
	n := paged().told(t)
	for range 5000 {
		c := o.registers()
		n.c = &c
		at, kind := o.next(), o.among(kinds(), 4)
		n.walks(api.Machine, kind, at, walk.Leaf{Address: at, Level: -1})
		if c.Satp>>60 != 8 {
			n.walks(o.among(modes(), 3), kind, at, walk.Leaf{Address: at, Level: -1})
		}
	}
}

// P14.3: nothing is changed, neither in tables nor in devices; R3: nor in the registers.
func TestNothingIsChanged(t *testing.T) {
	o := dice(1408)
	n := paged()
	n.put(0x80003020, to(0x10000, v|r|w|x|a|d))
	n.put(0x80003028, to(0x0c200, v|r|w|x|a|d))
	n.put(0x80003030, to(0x80005, v|r|w|x))
	b := n.bus(t)
	b.Write(0x0c00000c, 4, 1) // the source 3 has a priority, and is one that counts
	b.Write(0x0c002000, 4, 8)
	before := b.Copy()
	c := n.c
	for range 20000 {
		n.c.Satp = c.Satp
		if o.one(4) {
			n.c.Satp = 8<<60 | o.table()
		}
		asked := n.c
		at := []uint64{0x80403000, 0x80404000, 0x80405004, 0x80406000, 0x80200000, 0x10000000, 0x0c200004}[o.below(7)]
		mode, kind := o.among(modes(), 3), o.among(kinds(), 4)
		walk.Walk(b, &n.c, mode, kind, at)
		walk.Reach(b, &n.c, mode, kind, at, o.among(sizes(), 4))
		walk.Allows(&n.c, mode, kind, o.entry())
		walk.Mode(&n.c, mode, kind)
		if n.c != asked {
			t.Fatalf("%#x behind %#x", n.c, asked)
		}
	}
	if b.Cycle() != before.Cycle() || b.Time() != before.Time() || b.Pending() != before.Pending() || !bytes.Equal(b.Sent(), before.Sent()) {
		t.Error("the devices aren't as they were")
	}
	for at := uint64(api.RamBase); at < api.RamBase+api.RamSize; at += 8 {
		if e, _ := b.Read(api.Read, at, 8); e != n.entryAt(at) {
			t.Fatalf("at %#x stands %#x", at, e)
		}
	}
	for _, row := range []struct {
		at   uint64
		size int
		want uint64
	}{{0x10000000, 1, 'a'}, {0x10000000, 1, 0}, {0x0c001000, 4, 8}, {0x0c200004, 4, 3}, {0x0c200004, 4, 0}} {
		if e, ok := b.Read(api.Read, row.at, row.size); e != row.want || !ok {
			t.Errorf("the device at %#x: %#x, %v, not %#x", row.at, e, ok, row.want)
		}
	}
}

// R4: a call answers the same again, whatever was asked between, and of a copy of the bus.
func TestAnswersAgain(t *testing.T) {
	o := dice(1409)
	n := o.world()
	b := n.bus(t)
	type answer struct {
		l              walk.Leaf
		cause, at, bad uint64
	}
	for range 5000 {
		c, mode, kind, at := o.registers(), o.among(modes(), 3), o.among(kinds(), 4), o.address()
		var first, again answer
		first.l, first.cause = walk.Walk(b, &c, mode, kind, at)
		first.at, first.bad = walk.Reach(b, &c, mode, kind, at, 4)
		other := o.registers()
		walk.Walk(b, &other, o.among(modes(), 3), o.among(kinds(), 4), o.address())
		copied := b.Copy()
		again.l, again.cause = walk.Walk(copied, &c, mode, kind, at)
		again.at, again.bad = walk.Reach(copied, &c, mode, kind, at, 4)
		if again != first {
			t.Fatalf("%#x, then %#x", first, again)
		}
	}
}
