package uart_test

import (
	"bytes"
	"math"
	"slices"
	"testing"

	"tandem/uart"
)

// dice tells numbers, always the same ones.
type dice uint64

func (d *dice) next() uint64 {
	*d += 0x9e3779b97f4a7c15
	z := uint64(*d)
	z = (z ^ z>>30) * 0xbf58476d1ce4e5b9
	z = (z ^ z>>27) * 0x94d049bb133111eb
	return z ^ z>>31
}

func (d *dice) below(n uint64) uint64 {
	return d.next() % n
}

// sizes are that of the registers, and many that none has.
func sizes() []int {
	return []int{1, 0, -1, 2, 3, 4, 5, 7, 8, 16, 64, -2, -4, -8, math.MinInt, math.MinInt + 1, math.MaxInt, 1<<8 + 1, 1<<16 + 1, 1<<32 + 1}
}

// log is a second uart: it keeps all that was kept of what came, how much of it was read, and what else was written.
type log struct {
	came      []byte
	had, lost int // lost: since the state was read last
	last      [8]uint64
	out       []byte
}

func (l *log) copied() *log {
	o := *l
	o.came, o.out = slices.Clone(l.came), slices.Clone(l.out)
	return &o
}

func (l *log) give(b byte) {
	if len(l.came)-l.had > 15 {
		l.lost++
		return
	}
	l.came = append(slices.Clone(l.came), b)
}

func (l *log) up() bool {
	return l.last[1]%2 != 0 && l.had != len(l.came)
}

func (l *log) read(at uint64, size int) (uint64, bool) {
	if size != 1 || at > 7 {
		return 0, false
	}
	v := uint64(0)
	switch at {
	case 0:
		if l.had < len(l.came) {
			v = uint64(l.came[l.had])
			l.had++
		}
	case 1:
		v = l.last[1] % 2
	case 2:
		v = 1
		if l.up() {
			v = 4
		}
	case 5:
		v = 32 + 64
		if l.had < len(l.came) {
			v++
		}
		if l.lost > 0 {
			v += 2
		}
		l.lost = 0
	case 7:
		v = l.last[7] % 256
	}
	return v, true
}

func (l *log) write(at uint64, size int, v uint64) bool {
	if size != 1 || at > 7 {
		return false
	}
	l.last[at] = v
	if at == 0 {
		l.out = append(slices.Clone(l.out), byte(v%256))
	}
	return true
}

// holds fails, if a uart isn't l, by what its calls tell; what would change it is asked of its copy.
func holds(t *testing.T, what string, u *uart.Uart, l *log) {
	t.Helper()
	if u.Up() != l.up() {
		t.Fatalf("%s: Up: not %v", what, l.up())
	}
	if v := u.Sent(); !bytes.Equal(v, l.out) {
		t.Fatalf("%s: Sent: %q, not %q", what, v, l.out)
	}
	for _, at := range []uint64{1, 2, 3, 4, 6, 7} {
		alike(t, what, u, l, at, 1)
	}
	o, m := u.Copy(), l.copied()
	alike(t, what+", a copy", o, m, 5, 1)
	for range 18 {
		alike(t, what+", a copy", o, m, 0, 1)
	}
	alike(t, what+", a copy", o, m, 5, 1)
}

// alike fails, if what both read isn't the same.
func alike(t *testing.T, what string, u *uart.Uart, l *log, at uint64, size int) {
	t.Helper()
	v, ok := u.Read(at, size)
	if w, is := l.read(at, size); v != w || ok != is {
		t.Fatalf("%s: Read(%#x, %d): %#x, %v, not %#x, %v", what, at, size, v, ok, w, is)
	}
}

// drained fails, if the queues of both aren't the same, asked of themselves: they are empty then.
func drained(t *testing.T, what string, u *uart.Uart, l *log) {
	t.Helper()
	for range 18 {
		alike(t, what, u, l, 5, 1)
		alike(t, what, u, l, 0, 1)
	}
	holds(t, what, u, l)
}

// filled is a uart to which bytes were given and which sent some, and the same as a log.
func filled(in, out string) (*uart.Uart, *log) {
	u, l := uart.New(), new(log)
	for _, b := range []byte(in) {
		u.Give(b)
		l.give(b)
	}
	for _, b := range []byte(out) {
		u.Write(0, 1, uint64(b))
		l.write(0, 1, uint64(b))
	}
	return u, l
}
