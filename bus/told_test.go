package bus_test

import (
	"testing"

	"tandem/api"
	"tandem/bus"
)

// told holds answers against those that are asked for.
type told struct {
	t *testing.T
	b *bus.Bus
}

// made is a bus of a setup that may be.
func made(t *testing.T, s api.Setup) told {
	t.Helper()
	b, ok := bus.New(s)
	if b == nil || !ok {
		t.Fatalf("New: %v, %v", b, ok)
	}
	return told{t, b}
}

// refused holds that a setup may not be.
func refused(t *testing.T, what string, s api.Setup) {
	t.Helper()
	if b, ok := bus.New(s); b != nil || ok {
		t.Errorf("%s: New: %v, %v", what, b, ok)
	}
}

func (x told) read(kind int, at uint64, size int, want uint64) {
	x.t.Helper()
	if v, ok := x.b.Read(kind, at, size); v != want || !ok {
		x.t.Errorf("Read(%d, %#x, %d): %#x, %v, not %#x", kind, at, size, v, ok, want)
	}
}

// unread holds that nothing can be read so.
func (x told) unread(kind int, at uint64, size int) {
	x.t.Helper()
	if v, ok := x.b.Read(kind, at, size); v != 0 || ok {
		x.t.Errorf("Read(%d, %#x, %d): %#x, %v", kind, at, size, v, ok)
	}
}

func (x told) write(at uint64, size int, v uint64) {
	x.t.Helper()
	if !x.b.Write(at, size, v) {
		x.t.Errorf("Write(%#x, %d, %#x): false", at, size, v)
	}
}

// unwritten holds that nothing can be written there.
func (x told) unwritten(at uint64, size int, v uint64) {
	x.t.Helper()
	if x.b.Write(at, size, v) {
		x.t.Errorf("Write(%#x, %d, %#x): true", at, size, v)
	}
}

func (x told) may(kind int, at uint64, size int, want bool) {
	x.t.Helper()
	if x.b.May(kind, at, size) != want {
		x.t.Errorf("May(%d, %#x, %d): not %v", kind, at, size, want)
	}
}

func (x told) plain(at uint64, size int, want bool) {
	x.t.Helper()
	if x.b.Plain(at, size) != want {
		x.t.Errorf("Plain(%#x, %d): not %v", at, size, want)
	}
}

func (x told) cycle(want int64) {
	x.t.Helper()
	if v := x.b.Cycle(); v != want {
		x.t.Errorf("Cycle: %d, not %d", v, want)
	}
}

func (x told) time(want uint64) {
	x.t.Helper()
	if v := x.b.Time(); v != want {
		x.t.Errorf("Time: %d, not %d", v, want)
	}
	x.read(api.Read, 0x200bff8, 8, want)
}

func (x told) pending(want uint64) {
	x.t.Helper()
	if v := x.b.Pending(); v != want {
		x.t.Errorf("Pending: %#x, not %#x", v, want)
	}
}

func (x told) sent(want string) {
	x.t.Helper()
	if v := x.b.Sent(); string(v) != want {
		x.t.Errorf("Sent: %q, not %q", v, want)
	}
}

// waiting holds which of the PLIC's sources wait.
func (x told) waiting(want uint64) {
	x.t.Helper()
	x.read(api.Read, 0xc001000, 4, want)
}

// to goes on until a cycle has begun.
func (x told) to(cycle int64) {
	for x.b.Cycle() < cycle {
		x.b.Tick()
	}
}

// byteIn and lineTo are inputs.
func byteIn(cycle int64, b byte) api.Event {
	return api.Event{Cycle: cycle, Kind: api.EventByte, V: uint64(b)}
}

func lineTo(cycle int64, n int, v uint64) api.Event {
	return api.Event{Cycle: cycle, Kind: api.EventLine, N: n, V: v}
}
