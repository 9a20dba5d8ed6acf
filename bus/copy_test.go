package bus_test

import (
	"strings"
	"testing"

	"tandem/api"
)

// P10.5: all bits that the CLINT's and the PLIC's lines have, alone and together.
func TestPendingHasBoth(t *testing.T) {
	for lines := range uint64(16) {
		x := paired(t, api.Setup{Events: []api.Event{lineTo(0, 2, 1), lineTo(0, 3, 1)}})
		x.tick()
		x.write(0xc000008, 4, 1)
		x.write(0xc00000c, 4, 1)
		x.write(0x2000000, 4, lines&1)
		x.write(0x2004000, 8, 1+(lines>>1&1^1))
		x.write(0xc002000, 4, lines>>2&1<<2)
		x.write(0xc002080, 4, lines>>3&1<<3)
		told{t, x.b}.pending(lines&1<<3 | lines>>1&1<<7 | lines>>2&1<<11 | lines>>3&1<<9)
		x.spent()
	}
}

// P10.5: the time is the CLINT's, also where it was written.
func TestTimeIsTheClints(t *testing.T) {
	x := made(t, api.Setup{})
	d := dice(101)
	for range 100 {
		v := d.next()
		x.write(0x200bff8, 8, v)
		x.time(v)
		x.b.Tick()
		x.time(v + 1)
		x.write(0x200bffc, 4, 5)
		x.time(5<<32 | (v+1)&0xffffffff)
	}
}

// P10.5: what went out, in order; new memory each time, the room behind it too.
func TestSentTellsAll(t *testing.T) {
	x := made(t, api.Setup{Events: []api.Event{byteIn(0, 'i'), byteIn(1, 'j')}})
	var want strings.Builder
	for i := range 300 {
		x.write(0x10000000, 1, uint64(i)|1<<40)
		want.WriteByte(byte(i))
		a, b := x.b.Sent(), x.b.Sent()
		for _, l := range [][]byte{a[:cap(a)], b[:cap(b)]} {
			clear(l)
			x.sent(want.String())
		}
		if i%100 == 0 {
			x.b.Tick()
		}
	}
	x.sent(want.String())
}

// P10.5: a copy is alike and goes on alike; what is done to the one isn't seen in the other one, in whatever cycle.
func TestCopyGoesOnAlike(t *testing.T) {
	for ahead := range 4 {
		x := paired(t, full())
		x.write(0x10000001, 1, 1)
		x.write(0x10000000, 1, 's')
		for range ahead {
			x.tick()
		}
		y, z := x.copied(), x.copied()
		w := y.copied()
		for range 3 {
			x.holds()
			x.tick()
		}
		x.write(0x80000000, 8, 0)
		x.write(0x10000000, 1, 'x')
		x.write(0x2000000, 4, 1)
		x.write(0x2004000, 8, 1)
		x.spent()
		y.holds()
		y.write(0x10000000, 1, 'y')
		y.write(0x800ff000, 8, 1)
		z.holds()
		y.tick()
		y.spent()
		for range 3 {
			z.tick()
			w.holds()
		}
		z.spent()
		w.spent()
	}
}

// P10.5: one change of each kind at a time, in the one or in the other.
func TestCopiesAreApart(t *testing.T) {
	changes := []func(x pair){
		func(x pair) { x.tick() },
		func(x pair) { x.read(api.Read, 0x10000000, 1) },
		func(x pair) { x.read(api.Read, 0x10000005, 1) },
		func(x pair) { x.read(api.Read, 0xc200004, 4) },
		func(x pair) { x.read(api.Read, 0xc201004, 4) },
	}
	for _, s := range spots() {
		changes = append(changes, func(x pair) { x.write(s.at, s.size, 0x5a5a5a5a5a5a5a5a) })
	}
	for _, at := range []uint64{0x80000000, 0x80000ffd, 0x800ffff8} {
		changes = append(changes, func(x pair) { x.write(at, 8, 0x123456789abcdef0) })
	}
	for _, change := range changes {
		x := filled(t)
		y := x.copied()
		change(x)
		y.holds()
		x.holds()
		z := y.copied()
		change(y)
		z.spent()
		y.spent()
		x.spent()
	}
}

// P10.5: pages of the RAM that were written in neither, in one, or in both.
func TestCopiesOfTheRAM(t *testing.T) {
	x := paired(t, api.Setup{Image: row(4096)})
	y := x.copied()
	x.write(0x80004000, 8, 1)
	y.write(0x80005000, 8, 2)
	x.write(0x80000010, 1, 0)
	for at := uint64(0x80000000); at < 0x80007000; at += 8 {
		x.read(api.Read, at, 8)
		y.read(api.Read, at, 8)
	}
}

// P10.5: the inputs ahead come in each of them, in its own cycles.
func TestCopiesHaveTheInputsAhead(t *testing.T) {
	var list []api.Event
	for i := range int64(10) {
		list = append(list, byteIn(2*i, byte('a'+i)))
	}
	for ahead := int64(-1); ahead < 20; ahead++ {
		x := made(t, api.Setup{Events: list})
		x.to(ahead)
		for i := range (ahead + 2) / 2 {
			x.read(api.Read, 0x10000000, 1, uint64('a'+i))
		}
		for range 3 {
			y := told{t, x.b.Copy()}
			y.cycle(ahead)
			y.to(19)
			for i := (ahead + 2) / 2; i < 10; i++ {
				y.read(api.Read, 0x10000000, 1, uint64('a'+i))
			}
			y.read(api.Read, 0x10000005, 1, 0x60)
		}
		x.cycle(ahead)
	}
}
