package walk_test

import (
	"encoding/binary"
	"math"
	"testing"

	"tandem/api"
	"tandem/bus"
	"tandem/pmp"
	"tandem/walk"
)

// The bits of an entry.
const (
	v = 1 << iota
	r
	w
	x
	u
	g
	a
	d
)

// The fields of Mstatus.
const (
	mprv = 1 << 17
	sum  = 1 << 18
	mxr  = 1 << 19
)

// to is an entry of a page's number.
func to(page, bits uint64) uint64 {
	return page<<10 | bits
}

// A world is what the RAM holds, and the registers.
type world struct {
	image []byte
	c     api.Csrs
}

// bare is a world without tables in which pmp allows all.
func bare() *world {
	o := &world{image: make([]byte, 0x6000)}
	o.c.Pmpcfg[7], o.c.Pmpaddr[7] = 0x1f, 1<<54-1
	return o
}

// paged is one with tables: from 0x80001000 on those of the level 2, with those of the level 1 from 0x80002000 on and those of the level 0 from 0x80003000 on; and again for the addresses that begin with ones. A page of each size may be read, written and run by S.
func paged() *world {
	o := bare()
	o.c.Satp = 8<<60 | 0x80001
	o.put(0x80001010, to(0x80002, v))
	o.put(0x80001ff8, to(0x80002, v))
	o.put(0x80001018, to(0x80000, v|r|w|x|a|d)) // from 0xc0000000 on
	o.put(0x80002008, to(0x80200, v|r|w|x|a|d)) // from 0x80200000 on
	o.put(0x80002010, to(0x80003, v))
	o.put(0x80003018, to(0x80005, v|r|w|x|a|d)) // from 0x80403000 on
	return o
}

// put lays an entry.
func (o *world) put(at, entry uint64) {
	binary.LittleEndian.PutUint64(o.image[at-api.RamBase:], entry)
}

// bus is one of a machine whose UART has a byte, and whose PLIC has an interrupt.
func (o *world) bus(t *testing.T) *bus.Bus {
	t.Helper()
	b, ok := bus.New(api.Setup{Image: o.image, Events: []api.Event{
		{Kind: api.EventByte, V: 'a'},
		{Kind: api.EventLine, N: 3, V: 1},
	}})
	if !ok {
		t.Fatal("there is no bus")
	}
	b.Tick()
	return b
}

// told holds answers against those that are asked for.
type told struct {
	t *testing.T
	b *bus.Bus
	c *api.Csrs
}

func (o *world) told(t *testing.T) told {
	t.Helper()
	return told{t, o.bus(t), &o.c}
}

// walks holds that a walk ends so.
func (o told) walks(mode, kind int, at uint64, want walk.Leaf) {
	o.t.Helper()
	if l, cause := walk.Walk(o.b, o.c, mode, kind, at); l != want || cause != 0 {
		o.t.Errorf("Walk(%d, %d, %#x): %#x, %d, not %#x", mode, kind, at, l, cause, want)
	}
}

// strays holds that a walk ends with a cause.
func (o told) strays(mode, kind int, at, want uint64) {
	o.t.Helper()
	if l, cause := walk.Walk(o.b, o.c, mode, kind, at); l != (walk.Leaf{}) || cause != want {
		o.t.Errorf("Walk(%d, %d, %#x): %#x, %d, not %d", mode, kind, at, l, cause, want)
	}
}

// reaches holds that an access is made at an address.
func (o told) reaches(mode, kind int, at uint64, size int, want uint64) {
	o.t.Helper()
	if p, cause := walk.Reach(o.b, o.c, mode, kind, at, size); p != want || cause != 0 {
		o.t.Errorf("Reach(%d, %d, %#x, %d): %#x, %d, not %#x", mode, kind, at, size, p, cause, want)
	}
}

// fails holds that one ends with a cause.
func (o told) fails(mode, kind int, at uint64, size int, want uint64) {
	o.t.Helper()
	if p, cause := walk.Reach(o.b, o.c, mode, kind, at, size); p != 0 || cause != want {
		o.t.Errorf("Reach(%d, %d, %#x, %d): %#x, %d, not %d", mode, kind, at, size, p, cause, want)
	}
}

func (o told) allows(mode, kind int, entry uint64, want bool) {
	o.t.Helper()
	if walk.Allows(o.c, mode, kind, entry) != want {
		o.t.Errorf("Allows(Mstatus %#x, %d, %d, %#x): not %v", o.c.Mstatus, mode, kind, entry, want)
	}
}

func (o told) judged(mode, kind, want int) {
	o.t.Helper()
	if m := walk.Mode(o.c, mode, kind); m != want {
		o.t.Errorf("Mode(Mstatus %#x, %d, %d): %d, not %d", o.c.Mstatus, mode, kind, m, want)
	}
}

// kinds are those of accesses, and many that are none: these count as Read.
func kinds() []int {
	return []int{api.Fetch, api.Read, api.Write, api.Atomic, 4, 5, 6, 7, -1, -2, -4, math.MinInt, math.MinInt + 2, math.MaxInt, 1 << 8, 1<<8 + 2, 1 << 32, 1<<32 + 3}
}

// modes are those that there are, and many that are none: these are taken for U.
func modes() []int {
	return []int{api.Machine, api.Supervisor, api.User, 2, 4, 5, 7, -1, -2, -3, math.MinInt, math.MinInt + 1, math.MinInt + 3, math.MaxInt, 1<<8 + 1, 1<<32 + 1, 1<<32 + 3}
}

// sizes are those of accesses, and some that none has.
func sizes() []int {
	return []int{1, 2, 4, 8, 0, -1, 3, 5, 16, math.MinInt, math.MaxInt, 1<<32 + 8}
}

// dice tells numbers, always the same ones.
type dice uint64

func (o *dice) next() uint64 {
	*o += 0x9e3779b97f4a7c15
	z := uint64(*o)
	z = (z ^ z>>30) * 0xbf58476d1ce4e5b9
	z = (z ^ z>>27) * 0x94d049bb133111eb
	return z ^ z>>31
}

func (o *dice) below(n uint64) uint64 {
	return o.next() % n
}

// one tells whether something that is so once in many times is so now.
func (o *dice) one(in uint64) bool {
	return o.below(in) == 0
}

// among is one of a list, most often one of its first ones.
func (o *dice) among(l []int, first uint64) int {
	if !o.one(6) {
		l = l[:first]
	}
	return l[o.below(uint64(len(l)))]
}

// table is the number of a page of the image's; seldom one of RAM's ends, of a device's, or any.
func (o *dice) table() uint64 {
	if !o.one(12) {
		return 0x80000 + o.below(6)
	}
	return []uint64{0x800ff, 0x80100, 0x7ffff, 0, 0x10000, 0x0c000, 0x02000, 1<<44 - 1, o.next() >> 20, 1<<32 + 0x80001, 1<<43 + 0x80001}[o.below(11)]
}

// page is a number of a page of any size, or next to one.
func (o *dice) page() uint64 {
	p := o.next() >> 20
	switch o.below(4) {
	case 0:
		p = p >> 18 << 18
	case 1:
		p = p >> 9 << 9
	case 2:
		p = 0x80000
	}
	if o.one(6) {
		p ^= 1 << o.below(20)
	}
	return p
}

// entry is any: most often one that leads on or a leaf, seldom with a bit that is otherwise.
func (o *dice) entry() uint64 {
	var e uint64
	switch o.below(8) {
	case 0, 1, 2, 3:
		e = to(o.table(), v|g*o.below(2)|0x300*o.below(2))
	case 4:
		e = o.next()
	default:
		e = to(o.page(), v|a|d|o.next()&(r|x|u|g|0x300)|r*o.below(2)|w*o.below(2))
	}
	if o.one(8) {
		e ^= 1 << o.below(64)
	}
	return e
}

// address is one that can be translated, seldom not.
func (o *dice) address() uint64 {
	at := uint64(int64(o.next()) >> 25)
	if o.one(12) {
		at ^= 1 << o.below(64)
	}
	return at
}

// registers are any, most often with Sv39 and with a last entry of pmp that allows all.
func (o *dice) registers() api.Csrs {
	c := api.Csrs{Mstatus: o.next(), Medeleg: o.next(), Fcsr: o.next()}
	c.Satp = 8<<60 | o.next()>>4&^(1<<44-1) | o.table()
	if o.one(8) {
		c.Satp = o.next()
	}
	for n := range c.Pmpcfg {
		if o.one(6) {
			c.Pmpcfg[n], c.Pmpaddr[n] = uint8(o.next()), 0x20000000+o.below(0x1800)
		}
	}
	if !o.one(12) {
		c.Pmpcfg[7], c.Pmpaddr[7] = 0x1f, 1<<54-1
	}
	return c
}

// world is one whose image holds entries alone.
func (o *dice) world() *world {
	n := &world{image: make([]byte, 0x6000), c: o.registers()}
	for at := uint64(api.RamBase); at < api.RamBase+0x6000; at += 8 {
		n.put(at, o.entry())
	}
	return n
}

// may asks layer 11.
func may(c *api.Csrs, mode, kind int, at uint64, size int) bool {
	return pmp.Check(c.Pmpcfg, c.Pmpaddr, mode, kind, at, size)
}
