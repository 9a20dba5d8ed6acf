package bus_test

import (
	"math"
	"testing"

	"tandem/api"
)

// full is a setup after whose first cycle all devices have something to lose by a read: bytes wait, one was lost, sources wait.
func full() api.Setup {
	s := api.Setup{Image: row(5000)}
	for i := range 17 {
		s.Events = append(s.Events, byteIn(0, byte('a'+i)))
	}
	for n := 1; n <= 8; n++ {
		s.Events = append(s.Events, lineTo(0, n, 1))
	}
	s.Events = append(s.Events, lineTo(1, 1, 0), lineTo(1, 3, 0), byteIn(1, 'z'))
	return s
}

// filled is one of it, with all sources enabled for both contexts.
func filled(t *testing.T) pair {
	t.Helper()
	x := paired(t, full())
	for n := uint64(1); n < 9; n++ {
		x.write(0xc000000+4*n, 4, n%3+1)
	}
	x.write(0xc002000, 4, 0x1fe)
	x.write(0xc002080, 4, 0x1fe)
	x.write(0x10000001, 1, 1)
	x.tick()
	return x
}

// places are addresses around all devices and all ends, and far ones that would be these, were a bit not looked at.
func places() []uint64 {
	list := []uint64{0, 1, 2, 3, 4, 8, 0x1000, 0x1fffff8, 0x1000000, 0x4000000, math.MaxUint64, math.MaxUint64 - 1, math.MaxUint64 - 3, math.MaxUint64 - 7}
	around := func(at uint64) {
		for d := range uint64(10) {
			list = append(list, at+d, at-d)
		}
	}
	for _, at := range []uint64{0x2000000, 0x2010000, 0xc000000, 0xc400000, 0x10000000, 0x80000000, 0x80100000, 0x80001000} {
		around(at)
		for bit := range 64 {
			list = append(list, at^1<<bit, (at-8)^1<<bit)
		}
	}
	for _, s := range spots() {
		around(s.at)
		for bit := range 64 {
			list = append(list, s.at^1<<bit)
		}
	}
	return list
}

// P10.3: whether an access can be made, of all kinds and sizes, around all that there is; and nothing is changed by the question.
func TestMay(t *testing.T) {
	x := filled(t)
	y := told{t, x.b}
	for _, at := range places() {
		for _, size := range sizes() {
			y.plain(at, size, x.r.plain(at, size))
			for _, kind := range kinds() {
				y.may(kind, at, size, x.r.may(kind, at, size))
			}
		}
	}
	x.holds()
	x.spent()
}

// P10.3: at all places of the CLINT, of the UART and of those of the PLIC where registers stand, and at many of its others.
func TestMayOverTheDevices(t *testing.T) {
	x := filled(t)
	there := map[uint64]bool{}
	for _, s := range spots() {
		there[s.at<<4|uint64(s.size)] = true
	}
	sweep := func(from, to, step uint64) {
		for at := from; at < to; at += step {
			for _, size := range []int{1, 2, 4, 8} {
				if x.b.May(api.Read, at, size) != there[at<<4|uint64(size)] {
					t.Fatalf("May(Read, %#x, %d): not %v", at, size, there[at<<4|uint64(size)])
				}
			}
		}
	}
	sweep(0x1fffff0, 0x2010010, 1)
	sweep(0xbfffff0, 0xc003000, 1)
	sweep(0xc1ffff0, 0xc202010, 1)
	sweep(0xc003000, 0xc400010, 61)
	sweep(0xc003000, 0xc400010, 0x80)
	sweep(0xffffff0, 0x10000100, 1)
	x.spent()
}

// P10.3: each access that may be made changes nothing till it is.
func TestMayChangesNothing(t *testing.T) {
	for _, s := range spots() {
		for _, kind := range kinds() {
			x := filled(t)
			for range 3 {
				x.b.May(kind, s.at, s.size)
				x.b.Plain(s.at, s.size)
			}
			x.spent()
		}
	}
}

// P10.3, P10.4: what can't be read is neither told nor changed; what can is told by all kinds that can.
func TestReadOfAllKinds(t *testing.T) {
	for _, s := range spots() {
		for _, kind := range kinds() {
			x := filled(t)
			y := told{t, x.b}
			if kind != api.Read && kind != api.Write {
				y.unread(kind, s.at, s.size)
				x.spent()
				continue
			}
			x.read(kind, s.at, s.size)
			x.read(kind, s.at, s.size)
			x.spent()
		}
	}
}

// P10.4: around all that there is a Read is as May says; where it fails, nothing is changed.
func TestReadAroundAll(t *testing.T) {
	x := filled(t)
	for _, at := range places() {
		for _, size := range sizes() {
			for _, kind := range kinds() {
				if x.r.plain(at, size) || !x.r.may(kind, at, size) {
					x.read(kind, at, size)
				}
			}
		}
	}
	x.spent()
}

// P10.4: of the RAM, by all four kinds, at each place and of each size, whether it is a multiple or not.
func TestReadOfTheRAM(t *testing.T) {
	image := row(1 << 20)
	x := made(t, api.Setup{Image: image})
	for at := uint64(0); at < 1<<20; at += 1 + at%5*997/4 {
		for _, size := range []int{1, 2, 4, 8} {
			want, fits := uint64(0), at+uint64(size) <= 1<<20
			for i := 0; i < size && fits; i++ {
				want |= uint64(image[at+uint64(i)]) << (8 * i)
			}
			for kind := range 4 {
				if fits {
					x.read(kind, 0x80000000+at, size, want)
				} else {
					x.unread(kind, 0x80000000+at, size)
				}
			}
		}
	}
}

// P10.4: a Write is as May says of the kind Write, at all places and of all sizes; where it fails, nothing is changed.
func TestWriteAroundAll(t *testing.T) {
	x := filled(t)
	for _, at := range places() {
		for _, size := range sizes() {
			if !x.r.may(api.Write, at, size) {
				for _, v := range []uint64{0, 1, math.MaxUint64} {
					told{t, x.b}.unwritten(at, size, v)
				}
			}
		}
	}
	x.holds()
	for i, at := range places() {
		for _, size := range sizes() {
			x.write(at, size, uint64(i)*0x9e3779b97f4a7c15)
		}
	}
	x.spent()
}

// P10.4: each register, written with values of all kinds, is as its device has it.
func TestWriteOfRegisters(t *testing.T) {
	for _, s := range spots() {
		for bit := range 64 {
			for _, v := range []uint64{1 << bit, ^(uint64(1) << bit)} {
				x := filled(t)
				x.write(s.at, s.size, v)
				x.alike()
				if bit < 10 || bit > 62 {
					x.spent()
				}
			}
		}
	}
}

// P10.4: what is written in the RAM is read by all kinds, the bytes beside it stay.
func TestWriteOfTheRAM(t *testing.T) {
	for _, size := range []int{1, 2, 4, 8} {
		for _, at := range []uint64{0x80000000, 0x80000001, 0x80000ffb, 0x80000fff, 0x8007fffd, 0x80100000 - uint64(size)} {
			x := filled(t)
			x.write(at, size, 0xf1e2d3c4b5a69788)
			for kind := range 4 {
				for d := range uint64(16) {
					x.read(kind, at-d, 8)
					x.read(kind, at+d, 8)
				}
				x.read(kind, at, size)
			}
			told{t, x.b}.read(api.Atomic, at, 1, 0x88)
			x.spent()
		}
	}
}

// P10.4, chapters 7 to 9: some of what the devices do, through the bus.
func TestDevicesThroughTheBus(t *testing.T) {
	x := made(t, api.Setup{Events: []api.Event{byteIn(0, 'a'), byteIn(0, 'b'), lineTo(1, 8, 1)}})
	x.write(0x2004000, 8, 2)
	x.b.Tick()
	x.pending(0)
	x.b.Tick()
	x.pending(0x80)
	x.write(0x2000000, 4, 0xff)
	x.pending(0x88)
	x.read(api.Read, 0x2000000, 4, 1)
	x.write(0x2004004, 4, 1)
	x.pending(8)
	x.write(0xc000020, 4, 7)
	x.write(0xc002000, 4, 0x100)
	x.write(0xc002080, 4, 0x100)
	x.pending(0xa08)
	x.write(0xc200000, 4, 7)
	x.pending(0x208)
	x.read(api.Write, 0xc201004, 4, 8)
	x.pending(8)
	x.read(api.Write, 0x10000000, 1, 'a')
	x.read(api.Read, 0x10000000, 1, 'b')
	x.read(api.Read, 0x10000000, 1, 0)
	x.write(0x10000007, 1, 0x1ff)
	x.read(api.Read, 0x10000007, 1, 0xff)
}
