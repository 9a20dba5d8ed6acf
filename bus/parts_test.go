package bus_test

import (
	"bytes"
	"math"
	"testing"

	"tandem/api"
	"tandem/bus"
	"tandem/clint"
	"tandem/plic"
	"tandem/ram"
	"tandem/uart"
)

// dice tells numbers, always the same ones.
type dice uint64

func (d *dice) next() uint64 {
	*d += 0x9e3779b97f4a7c15
	z := uint64(*d)
	z = (z ^ z>>30) * 0xbf58476d1ce4e5b9
	z = (z ^ z>>27) * 0x94d049bb133111eb
	return z ^ z>>31
}

func (d *dice) below(n uint64) uint64 {
	return d.next() % n
}

// sizes are those that there are, and many that nothing has.
func sizes() []int {
	return []int{1, 2, 4, 8, 0, -1, 3, 5, 6, 7, 9, 16, -2, -4, -8, math.MinInt, math.MinInt + 1, math.MaxInt, 1<<8 + 1, 1<<16 + 4, 1<<32 + 8}
}

// kinds are those of accesses, and many that are none.
func kinds() []int {
	return []int{api.Fetch, api.Read, api.Write, api.Atomic, 4, 5, 7, -1, -2, math.MinInt, math.MaxInt, 1 << 8, 1<<8 + 1, 1<<32 + 1, 1<<32 + 2}
}

// The devices, as a register names them.
const (
	ofClint = iota
	ofPlic
	ofUart
)

// A spot is a register: its address and size, its device, and its place there.
type spot struct {
	at    uint64
	size  int
	of    int
	place uint64
}

// spots are all registers that there are.
func spots() []spot {
	list := []spot{
		{0x2000000, 4, ofClint, 0},
		{0x2004000, 8, ofClint, 0x4000}, {0x2004000, 4, ofClint, 0x4000}, {0x2004004, 4, ofClint, 0x4004},
		{0x200bff8, 8, ofClint, 0xbff8}, {0x200bff8, 4, ofClint, 0xbff8}, {0x200bffc, 4, ofClint, 0xbffc},
		{0xc001000, 4, ofPlic, 0x1000},
		{0xc002000, 4, ofPlic, 0x2000}, {0xc002080, 4, ofPlic, 0x2080},
		{0xc200000, 4, ofPlic, 0x200000}, {0xc201000, 4, ofPlic, 0x201000},
		{0xc200004, 4, ofPlic, 0x200004}, {0xc201004, 4, ofPlic, 0x201004},
	}
	for n := range uint64(9) {
		list = append(list, spot{0xc000000 + 4*n, 4, ofPlic, 4 * n})
	}
	for n := range uint64(8) {
		list = append(list, spot{0x10000000 + n, 1, ofUart, n})
	}
	return list
}

// spotOf finds a register; false: there is none.
func spotOf(at uint64, size int) (spot, bool) {
	for _, s := range spots() {
		if s.at == at && s.size == size {
			return s, true
		}
	}
	return spot{}, false
}

// parts is a second bus: the memory and the devices by themselves, accessed by hand. It looks through all inputs in each cycle.
type parts struct {
	m      *ram.Memory
	c      *clint.Clint
	p      *plic.Plic
	u      *uart.Uart
	inputs []api.Event
	came   int // how many of them have come
	begun  int64
}

func newParts(s api.Setup) *parts {
	r := &parts{m: ram.New(), c: clint.New(), p: plic.New(), u: uart.New(), inputs: append([]api.Event{}, s.Events...)}
	for i, b := range s.Image {
		r.m.Write(0x80000000+uint64(i), 1, uint64(b))
	}
	return r
}

func (r *parts) copied() *parts {
	o := *r
	o.m, o.c, o.p, o.u = r.m.Copy(), r.c.Copy(), r.p.Copy(), r.u.Copy()
	return &o
}

// settle raises or lowers the line of the source 1.
func (r *parts) settle() {
	up := r.u.Up()
	for i := r.came - 1; i >= 0; i-- {
		if e := r.inputs[i]; e.Kind == api.EventLine && e.N == 1 {
			up = up || e.V == 1
			break
		}
	}
	r.p.Line(1, up)
}

func (r *parts) tick() {
	for i, e := range r.inputs {
		if e.Cycle != r.begun {
			continue
		}
		r.came = i + 1
		if e.Kind == api.EventByte {
			r.u.Give(byte(e.V))
		} else if e.N > 1 {
			r.p.Line(e.N, e.V == 1)
		}
		r.settle()
	}
	r.begun++
	r.c.Tick()
}

func (r *parts) plain(at uint64, size int) bool {
	switch size {
	case 1, 2, 4, 8:
		return at >= 0x80000000 && at <= 0x80100000-uint64(size)
	}
	return false
}

func (r *parts) may(kind int, at uint64, size int) bool {
	if kind < 0 || kind > 3 {
		return false
	}
	_, ok := spotOf(at, size)
	return r.plain(at, size) || ok && (kind == 1 || kind == 2)
}

func (r *parts) read(kind int, at uint64, size int) (uint64, bool) {
	if !r.may(kind, at, size) {
		return 0, false
	}
	if s, ok := spotOf(at, size); ok {
		defer r.settle()
		switch s.of {
		case ofClint:
			return r.c.Read(s.place, size)
		case ofPlic:
			return r.p.Read(s.place, size)
		default:
			return r.u.Read(s.place, size)
		}
	}
	return r.m.Read(at, size)
}

func (r *parts) write(at uint64, size int, v uint64) bool {
	if !r.may(api.Write, at, size) {
		return false
	}
	if s, ok := spotOf(at, size); ok {
		defer r.settle()
		switch s.of {
		case ofClint:
			return r.c.Write(s.place, size, v)
		case ofPlic:
			return r.p.Write(s.place, size, v)
		default:
			return r.u.Write(s.place, size, v)
		}
	}
	return r.m.Write(at, size, v)
}

// A pair is a bus, and the same as parts.
type pair struct {
	t *testing.T
	b *bus.Bus
	r *parts
}

func paired(t *testing.T, s api.Setup) pair {
	t.Helper()
	return pair{t, made(t, s).b, newParts(s)}
}

func (x pair) copied() pair {
	return pair{x.t, x.b.Copy(), x.r.copied()}
}

func (x pair) tick() {
	x.b.Tick()
	x.r.tick()
}

// read fails, if both don't read the same.
func (x pair) read(kind int, at uint64, size int) {
	x.t.Helper()
	v, ok := x.b.Read(kind, at, size)
	if w, is := x.r.read(kind, at, size); v != w || ok != is {
		x.t.Fatalf("Read(%d, %#x, %d): %#x, %v, not %#x, %v", kind, at, size, v, ok, w, is)
	}
}

// write fails, if not both or neither can be written.
func (x pair) write(at uint64, size int, v uint64) {
	x.t.Helper()
	ok := x.b.Write(at, size, v)
	if is := x.r.write(at, size, v); ok != is {
		x.t.Fatalf("Write(%#x, %d, %#x): %v, not %v", at, size, v, ok, is)
	}
}

// alike fails, if both don't tell the same by what changes nothing.
func (x pair) alike() {
	x.t.Helper()
	if v := x.b.Cycle(); v != x.r.begun-1 {
		x.t.Fatalf("Cycle: %d, not %d", v, x.r.begun-1)
	}
	if v, w := x.b.Time(), x.r.c.Time(); v != w {
		x.t.Fatalf("Time: %d, not %d", v, w)
	}
	if v, w := x.b.Pending(), x.r.c.Pending()|x.r.p.Pending(); v != w {
		x.t.Fatalf("Pending: %#x, not %#x", v, w)
	}
	if v, w := x.b.Sent(), x.r.u.Sent(); !bytes.Equal(v, w) {
		x.t.Fatalf("Sent: %q, not %q", v, w)
	}
}

// spent fails, if both aren't the same; all that they hold is read and done with then, memory but for some of its places.
func (x pair) spent() {
	x.t.Helper()
	x.alike()
	for _, at := range []uint64{0x80000000, 0x80000008, 0x80000ff8, 0x80001000, 0x8007fffc, 0x800ffff8} {
		x.read(api.Fetch, at, 8)
	}
	for _, s := range spots() {
		if s.of != ofUart && s.place != 0x200004 && s.place != 0x201004 {
			x.read(api.Read, s.at, s.size)
		}
	}
	for range 18 {
		for n := range uint64(8) {
			x.read(api.Read, 0x10000007-n, 1)
		}
		x.alike()
	}
	x.served()
	x.tick()
	x.alike()
	x.served()
	x.alike()
}

// served lets all sources be claimed and leave service, twice, so that the lines show.
func (x pair) served() {
	x.t.Helper()
	x.write(0xc002000, 4, 0x1fe)
	for n := uint64(1); n < 9; n++ {
		x.write(0xc000000+4*n, 4, 1+n%7)
	}
	for range 2 {
		for range 9 {
			x.read(api.Read, 0xc200004, 4)
		}
		for n := uint64(1); n < 9; n++ {
			x.write(0xc200004, 4, n)
			x.read(api.Read, 0xc001000, 4)
		}
	}
}

// holds fails, if both aren't the same: copies of them are asked.
func (x pair) holds() {
	x.t.Helper()
	x.alike()
	x.copied().spent()
}
