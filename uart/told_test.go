package uart_test

import (
	"testing"

	"tandem/uart"
)

// told holds answers against those that are asked for.
type told struct {
	t *testing.T
	u *uart.Uart
}

func (x told) read(at, want uint64) {
	x.t.Helper()
	if v, ok := x.u.Read(at, 1); v != want || !ok {
		x.t.Errorf("Read(%d, 1): %#x, %v, not %#x", at, v, ok, want)
	}
}

func (x told) write(at, v uint64) {
	x.t.Helper()
	if !x.u.Write(at, 1, v) {
		x.t.Errorf("Write(%d, 1, %#x): false", at, v)
	}
}

// none holds that there is no such register.
func (x told) none(at uint64, size int) {
	x.t.Helper()
	if v, ok := x.u.Read(at, size); v != 0 || ok {
		x.t.Errorf("Read(%#x, %d): %#x, %v", at, size, v, ok)
	}
	for _, v := range []uint64{0, 1, 1<<64 - 1} {
		if x.u.Write(at, size, v) {
			x.t.Errorf("Write(%#x, %d, %#x): true", at, size, v)
		}
	}
}

func (x told) up(want bool) {
	x.t.Helper()
	if x.u.Up() != want {
		x.t.Errorf("Up: not %v", want)
	}
}

func (x told) sent(want string) {
	x.t.Helper()
	if v := x.u.Sent(); string(v) != want {
		x.t.Errorf("Sent: %q, not %q", v, want)
	}
}
