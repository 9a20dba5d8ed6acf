package bus_test

import (
	"math"
	"testing"

	"tandem/api"
)

// P10.2: cycles are counted from 0 on, and the time goes on by one tick in each.
func TestCyclesAreCounted(t *testing.T) {
	x := made(t, api.Setup{})
	x.cycle(-1)
	x.time(0)
	for c := range int64(5000) {
		x.b.Tick()
		x.cycle(c)
		x.cycle(c)
		x.time(uint64(c) + 1)
	}
}

// P10.2: the time goes on from where it was written, and comes round; the cycles are counted all the same.
func TestTheTimeGoesOnFromWhereItIs(t *testing.T) {
	x := made(t, api.Setup{})
	x.to(9)
	x.write(0x200bff8, 8, 1000)
	x.time(1000)
	x.b.Tick()
	x.time(1001)
	x.cycle(10)
	x.write(0x200bff8, 8, math.MaxUint64)
	x.b.Tick()
	x.time(0)
	x.b.Tick()
	x.time(1)
	x.cycle(12)
}

// P10.2: an input comes in its cycle, neither ahead of it nor behind it, and once.
func TestInputsComeInTheirCycle(t *testing.T) {
	for c := range int64(40) {
		x := made(t, api.Setup{Events: []api.Event{byteIn(c, 'a'), lineTo(c, 6, 1), lineTo(c+3, 6, 0)}})
		for i := int64(-1); i < 50; i++ {
			x.cycle(i)
			switch {
			case i < c:
				x.waiting(0)
				x.read(api.Read, 0x10000005, 1, 0x60)
			case i == c:
				x.waiting(1 << 6)
				x.read(api.Read, 0x10000005, 1, 0x61)
				x.read(api.Read, 0x10000000, 1, 'a')
			default:
				x.waiting(1 << 6)
				x.read(api.Read, 0x10000005, 1, 0x60)
			}
			x.b.Tick()
		}
	}
}

// P10.2: inputs of far cycles don't come.
func TestInputsOfFarCycles(t *testing.T) {
	for _, c := range []int64{1 << 8, 1 << 16, 1 << 32, math.MaxInt64} {
		x := made(t, api.Setup{Events: []api.Event{lineTo(c, 2, 1), byteIn(c, 'a')}})
		for range 200 {
			x.b.Tick()
			x.waiting(0)
			x.read(api.Read, 0x10000005, 1, 0x60)
		}
	}
}

// P10.2: all of a cycle come, in their order.
func TestInputsComeInTheirOrder(t *testing.T) {
	var list []api.Event
	for c := range int64(12) {
		for i := range c {
			list = append(list, byteIn(c, byte(16*c+i)))
		}
	}
	x := made(t, api.Setup{Events: list})
	for c := range int64(12) {
		x.b.Tick()
		for i := range c {
			x.read(api.Read, 0x10000005, 1, 0x61)
			x.read(api.Read, 0x10000000, 1, uint64(16*c+i))
		}
		x.read(api.Read, 0x10000005, 1, 0x60)
	}
}

// P10.2: bytes wait over cycles, and are lost where there are too many.
func TestBytesWaitAndAreLost(t *testing.T) {
	var list []api.Event
	for i := range 20 {
		list = append(list, byteIn(int64(i/7), byte('a'+i)))
	}
	x := made(t, api.Setup{Events: list})
	x.to(1)
	x.read(api.Read, 0x10000005, 1, 0x61)
	x.b.Tick()
	x.read(api.Read, 0x10000005, 1, 0x63)
	for i := range 16 {
		x.read(api.Read, 0x10000000, 1, uint64('a'+i))
	}
	x.read(api.Read, 0x10000005, 1, 0x60)
}

// P10.2: a line is raised by V 1 and lowered by V 0; each leads to its own source.
func TestLinesOfAllSources(t *testing.T) {
	for n := 1; n <= 8; n++ {
		x := made(t, api.Setup{Events: []api.Event{lineTo(1, n, 1), lineTo(3, n, 0), lineTo(5, n, 0), lineTo(6, n, 1)}})
		x.write(0xc002000, 4, 0x1fe)
		x.write(0xc000000+4*uint64(n), 4, 1)
		again := func(want uint64) {
			t.Helper()
			x.write(0xc200004, 4, uint64(n))
			x.read(api.Read, 0xc200004, 4, want)
		}
		x.to(0)
		x.pending(0)
		again(0)
		x.to(1)
		x.waiting(1 << n)
		x.pending(0x800)
		again(uint64(n))
		x.pending(0)
		again(uint64(n)) // its line is up still
		x.to(3)
		again(0)
		x.to(5)
		again(0)
		x.to(6)
		again(uint64(n))
		again(uint64(n))
	}
}

// P10.2: all that is done to a line in one cycle is seen, one by one: it waits, if the line was up, and waits anew, if it is up at last.
func TestLinesWithinACycle(t *testing.T) {
	rows := []struct {
		to          []uint64
		waits, anew uint64
	}{
		{[]uint64{0, 0}, 0, 0},
		{[]uint64{1, 1}, 1, 1},
		{[]uint64{1, 0}, 1, 0},
		{[]uint64{0, 1}, 1, 1},
		{[]uint64{0, 1, 0}, 1, 0},
		{[]uint64{1, 0, 1}, 1, 1},
		{[]uint64{1, 1, 0}, 1, 0},
		{[]uint64{1, 0, 0, 0}, 1, 0},
	}
	for n := 1; n <= 8; n++ {
		for _, r := range rows {
			var list []api.Event
			for _, v := range r.to {
				list = append(list, lineTo(0, n, v))
			}
			x := made(t, api.Setup{Events: list})
			x.write(0xc002000, 4, 0x1fe)
			x.write(0xc000000+4*uint64(n), 4, 1)
			x.b.Tick()
			x.waiting(r.waits << n)
			x.read(api.Read, 0xc200004, 4, r.waits*uint64(n))
			x.waiting(0)
			x.write(0xc200004, 4, uint64(n))
			x.waiting(r.anew << n)
		}
	}
}

// lineOne is a bus in whose first cycle the inputs did so to the line of the source 1, and so many bytes came to a UART that wants an interrupt or not.
func lineOne(t *testing.T, up []uint64, wanted, bytes int) told {
	t.Helper()
	var list []api.Event
	for _, v := range up {
		list = append(list, lineTo(0, 1, v))
	}
	for range bytes {
		list = append(list, byteIn(0, 'a'))
	}
	x := made(t, api.Setup{Events: list})
	x.write(0xc002000, 4, 2)
	x.write(0xc000004, 4, 1)
	x.write(0x10000001, 1, uint64(wanted))
	x.b.Tick()
	return x
}

// comesIn holds whether the line of the source 1 is up: whether it waits anew, as it leaves service.
func (x told) comesIn(what string, want bool) {
	x.t.Helper()
	x.b.Read(api.Read, 0xc200004, 4) // it is in service then, or the line is down
	x.write(0xc200004, 4, 1)
	if v, _ := x.b.Read(api.Read, 0xc001000, 4); v == 2 != want {
		x.t.Errorf("%s: the line of the source 1: not %v", what, want)
	}
}

// The line of the source 1 is up by the last input of it, or by the UART's line.
func TestTheLineOfTheSourceOne(t *testing.T) {
	for _, up := range [][]uint64{{}, {0}, {1}, {1, 0}, {0, 1}, {1, 1}, {1, 0, 1}, {1, 1, 0}} {
		last := len(up) > 0 && up[len(up)-1] == 1
		for wanted := range 2 {
			for bytes := range 3 {
				x := lineOne(t, up, wanted, bytes)
				x.comesIn("then", last || wanted == 1 && bytes > 0)
				x.write(0x10000001, 1, 1)
				x.comesIn("wanted", last || bytes > 0)
				x.write(0x10000001, 1, 0)
				x.comesIn("not wanted", last)
				x.write(0x10000001, 1, 1)
				for left := bytes; left >= 0; left-- {
					x.comesIn("bytes read", last || left > 0)
					x.b.Read(api.Read, 0x10000000, 1)
				}
				x.comesIn("all bytes read", last)
			}
		}
	}
}

// The source 1 comes in as soon as its line is up, by whatever call; what lowers the line takes nothing back.
func TestTheSourceOneComesInAtOnce(t *testing.T) {
	x := made(t, api.Setup{Events: []api.Event{byteIn(0, 'a'), byteIn(2, 'b')}})
	x.write(0xc002080, 4, 2)
	x.write(0xc000004, 4, 3)
	x.b.Tick()
	x.waiting(0)
	x.pending(0)
	x.write(0x10000001, 1, 1)
	x.waiting(2)
	x.pending(0x200)
	x.write(0x10000001, 1, 0)
	x.waiting(2)
	x.pending(0x200)
	x.read(api.Read, 0xc201004, 4, 1)
	x.pending(0)
	x.write(0xc201004, 4, 1)
	x.waiting(0)
	x.write(0x10000001, 1, 1)
	x.read(api.Read, 0x10000000, 1, 'a')
	x.waiting(2)
	x.read(api.Read, 0xc201004, 4, 1)
	x.write(0xc201004, 4, 1)
	x.b.Tick()
	x.waiting(0)
	x.b.Tick()
	x.waiting(2)
	x.pending(0x200)
}

// The UART's line goes down while the source is in service: it doesn't wait anew. It goes down and up again: it does.
func TestTheSourceOneInService(t *testing.T) {
	x := made(t, api.Setup{Events: []api.Event{byteIn(0, 'a'), byteIn(1, 'b')}})
	x.write(0xc002000, 4, 2)
	x.write(0xc000004, 4, 1)
	x.write(0x10000001, 1, 1)
	x.b.Tick()
	x.read(api.Read, 0xc200004, 4, 1)
	x.read(api.Write, 0x10000000, 1, 'a')
	o := told{t, x.b.Copy()}
	o.write(0xc200004, 4, 1)
	o.waiting(0)
	x.b.Tick()
	x.waiting(0)
	x.write(0xc200004, 4, 1)
	x.waiting(2)
}

// An input lowers the line of the source 1 while the UART has it up: it stays up; the UART lowers its own while the input has it up: likewise.
func TestTheLineOfTheSourceOneIsHeldByBoth(t *testing.T) {
	x := made(t, api.Setup{Events: []api.Event{byteIn(0, 'a'), lineTo(1, 1, 1), lineTo(2, 1, 0), lineTo(3, 1, 1), lineTo(5, 1, 0)}})
	x.write(0xc002000, 4, 2)
	x.write(0xc000004, 4, 1)
	x.write(0x10000001, 1, 1)
	for range 4 {
		x.b.Tick()
		x.comesIn("the UART's", true)
	}
	x.read(api.Read, 0x10000000, 1, 'a')
	x.comesIn("the input's", true)
	x.write(0x10000001, 1, 0)
	x.b.Tick()
	x.comesIn("the input's", true)
	x.b.Tick()
	x.comesIn("nobody's", false)
}

// The UART's line leads to the source 1 alone, and the others' inputs leave it alone.
func TestTheOtherLinesAreApart(t *testing.T) {
	var list []api.Event
	for n := 2; n <= 8; n++ {
		list = append(list, lineTo(int64(n), n, 1), lineTo(int64(n), n, 0))
	}
	list = append(list, byteIn(20, 'a'))
	x := made(t, api.Setup{Events: list})
	x.write(0x10000001, 1, 1)
	want := uint64(0)
	for n := 2; n <= 8; n++ {
		x.to(int64(n))
		want |= 1 << n
		x.waiting(want)
	}
	x.to(20)
	x.waiting(0x1fe)
}
