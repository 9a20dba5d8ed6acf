package bus_test

import (
	"testing"

	"tandem/api"
)

// The chapter's examples, row by row.

func TestExampleOfANewOne(t *testing.T) {
	x := made(t, api.Setup{Image: []byte{0x13, 0, 0, 0}})
	x.cycle(-1)
	x.read(api.Fetch, 0x80000000, 4, 0x13)
	x.read(api.Read, 0x200bff8, 8, 0)
	x.b.Tick()
	x.cycle(0)
	x.read(api.Read, 0x200bff8, 8, 1)
}

func TestExampleOfWhatCanNotBeRead(t *testing.T) {
	x := made(t, api.Setup{})
	x.unread(api.Fetch, 0x2000000, 4)
	x.unread(api.Atomic, 0x2004000, 8)
	x.unread(api.Read, 0x2000000, 8)
	x.unread(api.Read, 0x1000, 1)
}

func TestExampleOfMay(t *testing.T) {
	x := made(t, api.Setup{})
	x.may(api.Write, 0x10000000, 1, true)
	x.may(api.Fetch, 0x10000000, 1, false)
	x.may(api.Atomic, 0x80000000, 4, true)
	x.may(7, 0x80000000, 4, false)
}

func TestExampleOfWhatGoesOut(t *testing.T) {
	x := made(t, api.Setup{})
	x.write(0x10000000, 1, 0x48)
	x.sent("H")
}

func TestExampleOfInputs(t *testing.T) {
	x := made(t, api.Setup{Events: []api.Event{{Cycle: 0, Kind: api.EventByte, N: 0, V: 'a'}, {Cycle: 2, Kind: api.EventLine, N: 3, V: 1}}})
	x.b.Tick()
	x.read(api.Read, 0x10000005, 1, 0x61)
	x.b.Tick()
	x.waiting(0)
	x.b.Tick()
	x.waiting(8)
}

func TestExampleOfTheUartsLine(t *testing.T) {
	x := made(t, api.Setup{Events: []api.Event{byteIn(0, 'a')}})
	x.write(0x10000001, 1, 1)
	x.b.Tick()
	x.waiting(2)
}

func TestExampleOfInputsThatMayNotBe(t *testing.T) {
	refused(t, "of the cycles 3, 2", api.Setup{Events: []api.Event{byteIn(3, 'a'), byteIn(2, 'b')}})
	refused(t, "a line of no source", api.Setup{Events: []api.Event{{Cycle: 0, Kind: api.EventLine, N: 0, V: 1}}})
	refused(t, "of no kind", api.Setup{Events: []api.Event{{Cycle: 0, Kind: 3, N: 0, V: 0}}})
}
