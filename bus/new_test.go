package bus_test

import (
	"bytes"
	"math"
	"slices"
	"testing"

	"tandem/api"
)

// row is so many bytes, none of them 0.
func row(n int) []byte {
	l := make([]byte, n)
	for i := range l {
		l[i] = byte(i%255) + 1
	}
	return l
}

// P10.1: the image stands from RamBase on, all else of the RAM is 0.
func TestTheImageStands(t *testing.T) {
	for _, n := range []int{0, 1, 2, 7, 8, 9, 4095, 4096, 4097, 1<<20 - 1, 1 << 20} {
		image := row(n)
		x := made(t, api.Setup{Image: image})
		for i := uint64(0); i < 1<<20; i++ {
			want := uint64(0)
			if i < uint64(n) {
				want = uint64(image[i])
			}
			if v, ok := x.b.Read(api.Read, 0x80000000+i, 1); v != want || !ok {
				t.Fatalf("%d bytes: the byte %d: %#x, %v", n, i, v, ok)
			}
		}
	}
}

// P10.1: an image has at most 2^20 bytes, with inputs and without.
func TestImagesThatMayNotBe(t *testing.T) {
	for _, n := range []int{1<<20 + 1, 1<<20 + 2, 1<<20 + 8, 1<<20 + 4096, 1 << 21} {
		refused(t, "row", api.Setup{Image: row(n)})
		refused(t, "zeros", api.Setup{Image: make([]byte, n)})
		refused(t, "with inputs", api.Setup{Image: row(n), Events: []api.Event{byteIn(0, 'a')}})
		refused(t, "with wrong inputs", api.Setup{Image: row(n), Events: []api.Event{{}}})
	}
	x := made(t, api.Setup{Image: make([]byte, 1<<20)})
	x.read(api.Read, 0x800ffff8, 8, 0)
}

// P10.1: all else is as at first, no cycle has begun.
func TestNewIsAsAtFirst(t *testing.T) {
	for _, s := range []api.Setup{
		{},
		{Image: row(100)},
		{Events: []api.Event{byteIn(0, 'a'), lineTo(0, 1, 1), lineTo(0, 5, 1)}},
	} {
		x := made(t, s)
		x.cycle(-1)
		x.time(0)
		x.pending(0)
		x.sent("")
		for _, r := range spots() {
			want := uint64(0)
			switch r.at {
			case 0x2004000:
				want = math.MaxUint64 >> (64 - 8*r.size)
			case 0x2004004:
				want = math.MaxUint32
			case 0x10000002:
				want = 1
			case 0x10000005:
				want = 0x60
			}
			x.read(api.Read, r.at, r.size, want)
		}
		paired(t, s).spent()
	}
}

// P10.1: nothing else of the setup is looked at.
func TestNothingElseOfTheSetup(t *testing.T) {
	s := api.Setup{Image: row(16), Events: []api.Event{byteIn(1, 'a')}}
	o := s
	o.PC = math.MaxUint64
	o.Seeds = [3]uint64{1, 2, math.MaxUint64}
	for range 100 {
		o.Csrs = append(o.Csrs, api.Lay{Csr: -1, Value: math.MaxUint64}, api.Lay{Csr: 0xc01, Value: 9}, api.Lay{Csr: math.MaxInt})
	}
	pair{t, made(t, o).b, newParts(s)}.spent()
}

// P10.1: each one is one of its own.
func TestNewOnesAreApart(t *testing.T) {
	s := api.Setup{Image: row(16), Events: []api.Event{byteIn(0, 'a'), lineTo(0, 4, 1)}}
	x, y := paired(t, s), paired(t, s)
	x.tick()
	x.write(0x80000000, 8, 0)
	x.write(0x10000000, 1, 'o')
	x.write(0x10000001, 1, 1)
	x.write(0x2000000, 4, 1)
	x.write(0x200bff8, 8, 77)
	x.spent()
	y.holds()
	paired(t, s).holds()
	y.tick()
	y.spent()
}

// P10.1: inputs of each kind, at the ends of what they may be.
func TestInputsThatMayBe(t *testing.T) {
	for v := range 256 {
		made(t, api.Setup{Events: []api.Event{byteIn(0, byte(v))}})
	}
	for n := 1; n <= 8; n++ {
		made(t, api.Setup{Events: []api.Event{lineTo(0, n, 0)}})
		made(t, api.Setup{Events: []api.Event{lineTo(0, n, 1)}})
	}
	for _, c := range []int64{0, 1, 2, 65535, 65536, 1 << 31, 1 << 32, math.MaxInt64 - 1, math.MaxInt64} {
		made(t, api.Setup{Events: []api.Event{byteIn(c, 'a'), lineTo(c, 1, 1)}})
		made(t, api.Setup{Events: []api.Event{byteIn(0, 'a'), lineTo(c, 1, 1)}})
	}
	made(t, api.Setup{Events: []api.Event{}})
}

// wrong are inputs that may not be.
func wrong() []api.Event {
	list := []api.Event{{}, {V: 1}, {N: 1, V: 1}}
	for _, kind := range []int{0, 3, 4, -1, -2, math.MinInt, math.MaxInt, 1<<8 + 1, 1<<8 + 2, 1<<32 + 1, 1<<32 + 2} {
		list = append(list, api.Event{Kind: kind}, api.Event{Kind: kind, N: 1, V: 1}, api.Event{Kind: kind, V: 'a'})
	}
	for _, n := range []int{1, 2, 8, 9, -1, math.MinInt, math.MaxInt, 1 << 8, 1 << 32} {
		list = append(list, api.Event{Kind: api.EventByte, N: n, V: 'a'}, api.Event{Kind: api.EventByte, N: n, V: 1})
	}
	for _, v := range []uint64{256, 257, 512, 0x161, 1 << 16, 1 << 32, 1<<32 + 'a', 1 << 63, math.MaxUint64} {
		list = append(list, api.Event{Kind: api.EventByte, V: v})
	}
	for _, n := range []int{0, -1, 9, 10, 16, -8, math.MinInt, math.MaxInt, 1 << 8, 1<<8 + 1, 1<<32 + 1} {
		list = append(list, lineTo(0, n, 0), lineTo(0, n, 1))
	}
	for _, v := range []uint64{2, 3, 255, 256, 257, 1 << 32, 1<<32 + 1, 1 << 63, math.MaxUint64} {
		list = append(list, lineTo(0, 1, v), lineTo(0, 8, v))
	}
	for _, c := range []int64{-1, -2, -65536, -1 << 32, math.MinInt64} {
		list = append(list, byteIn(c, 'a'), lineTo(c, 1, 1))
	}
	return list
}

// P10.1: one that may not be is found wherever it stands.
func TestInputsThatMayNotBe(t *testing.T) {
	for _, e := range wrong() {
		for ahead := range 3 {
			for behind := range 3 {
				list := slices.Repeat([]api.Event{byteIn(0, 'a')}, ahead)
				list = append(list, e)
				refused(t, "wrong", api.Setup{Image: row(4), Events: append(list, slices.Repeat([]api.Event{lineTo(0, 2, 1)}, behind)...)})
			}
		}
	}
}

// P10.1: each one's cycle is that of the one ahead at least.
func TestInputsInOrder(t *testing.T) {
	for a := range int64(4) {
		for b := range int64(4) {
			for c := range int64(4) {
				s := api.Setup{Events: []api.Event{byteIn(a, 'a'), lineTo(b, 1, 1), byteIn(c, 'c')}}
				if a <= b && b <= c {
					made(t, s)
				} else {
					refused(t, "not in order", s)
				}
			}
		}
	}
	refused(t, "far", api.Setup{Events: []api.Event{byteIn(math.MaxInt64, 'a'), byteIn(0, 'b')}})
	refused(t, "one back", api.Setup{Events: []api.Event{byteIn(1<<40, 'a'), byteIn(1<<40-1, 'b')}})
}

// P10.1: there are at most 1024 of them, and all of these come.
func TestHowManyInputs(t *testing.T) {
	var list []api.Event
	for i := range 2000 {
		if n := len(list); n <= 1024 {
			made(t, api.Setup{Events: list})
		} else {
			refused(t, "too many", api.Setup{Events: list})
		}
		list = append(list, byteIn(int64(i), byte(i)))
	}
	x := made(t, api.Setup{Events: list[:1024]})
	for i := range 1024 {
		x.b.Tick()
		x.read(api.Read, 0x10000000, 1, uint64(i%256))
		x.read(api.Read, 0x10000005, 1, 0x60)
	}
	refused(t, "too many at once", api.Setup{Events: slices.Repeat([]api.Event{byteIn(0, 'a')}, 1025)})
	y := made(t, api.Setup{Events: append(slices.Repeat([]api.Event{lineTo(0, 7, 0)}, 1023), lineTo(0, 7, 1))})
	y.b.Tick()
	y.waiting(1 << 7)
}

// R3: the image and the inputs are neither changed nor kept, nor is the room behind them.
func TestTheSetupIsLeftAlone(t *testing.T) {
	image := row(5000)
	events := append(make([]api.Event, 0, 8), byteIn(0, 'a'), lineTo(2, 3, 1), byteIn(4, 'b'))
	behind := byteIn(9, 'z')
	room := events[:8]
	for i := 3; i < 8; i++ {
		room[i] = behind
	}
	s := api.Setup{Image: image[:4000], Events: events}
	x := paired(t, s)
	o := x.copied()
	x.write(0x80000000, 8, math.MaxUint64)
	x.write(0x80000fa0, 8, math.MaxUint64)
	x.tick()
	x.tick()
	if !bytes.Equal(image, row(5000)) {
		t.Error("the image is changed")
	}
	if !slices.Equal(room, []api.Event{byteIn(0, 'a'), lineTo(2, 3, 1), byteIn(4, 'b'), behind, behind, behind, behind, behind}) {
		t.Error("the inputs are changed")
	}
	clear(image)
	for i := range room {
		room[i] = lineTo(1, 8, 1)
	}
	for range 6 {
		x.holds()
		x.tick()
		o.holds()
		o.tick()
	}
	x.spent()
	o.spent()
}
