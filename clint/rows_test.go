package clint_test

import (
	"bytes"
	"math"
	"slices"
	"testing"

	"tandem/clint"
)

// dice tells numbers, always the same ones.
type dice uint64

func (d *dice) next() uint64 {
	*d += 0x9e3779b97f4a7c15
	z := uint64(*d)
	z = (z ^ z>>30) * 0xbf58476d1ce4e5b9
	z = (z ^ z>>27) * 0x94d049bb133111eb
	return z ^ z>>31
}

func (d *dice) below(n uint64) uint64 {
	return d.next() % n
}

// any is a number of any kind: near 0, near the end of all, near the end of a half, or just one.
func (d *dice) any() uint64 {
	near := d.below(5) - 2
	switch d.below(5) {
	case 0:
		return near
	case 1:
		return 1<<32 + near
	case 2:
		return d.below(4)<<32 + near
	case 3:
		return d.next() >> d.below(64)
	}
	return d.next()
}

// access is a place and a size.
type access struct {
	at   uint64
	size int
}

// accesses are all that the chapter names.
func accesses() []access {
	return []access{{0, 4}, {0x4000, 8}, {0x4000, 4}, {0x4004, 4}, {0xbff8, 8}, {0xbff8, 4}, {0xbffc, 4}}
}

// sizes are those that registers have, and many that none has.
func sizes() []int {
	return []int{1, 2, 4, 8, 0, -1, -4, -8, 3, 5, 6, 7, 12, 16, 32, 64, math.MinInt, math.MinInt + 4, math.MinInt + 8, math.MaxInt, 1<<32 + 4, 1<<32 + 8, 1<<8 + 4, 1<<16 + 8}
}

// rows is a second clint: each register is a row of bytes, the lowest one first.
type rows struct {
	msip, alarm, time []byte
}

func newRows() rows {
	return rows{make([]byte, 4), bytes.Repeat([]byte{255}, 8), make([]byte, 8)}
}

func (r rows) copied() rows {
	return rows{slices.Clone(r.msip), slices.Clone(r.alarm), slices.Clone(r.time)}
}

// bytesOf is the bytes that an access names; nil: there is none.
func (r rows) bytesOf(a access) []byte {
	if !slices.Contains(accesses(), a) {
		return nil
	}
	switch {
	case a.at < 0x4000:
		return r.msip
	case a.at < 0xbff8:
		return r.alarm[a.at-0x4000:][:a.size]
	}
	return r.time[a.at-0xbff8:][:a.size]
}

func (r rows) read(a access) (uint64, bool) {
	row := r.bytesOf(a)
	return number(row), row != nil
}

func (r rows) write(a access, v uint64) bool {
	row := r.bytesOf(a)
	for i := range row {
		row[i] = byte(v % 256)
		v /= 256
	}
	for i := range r.msip {
		r.msip[i] %= 2
		if i > 0 {
			r.msip[i] = 0
		}
	}
	return row != nil
}

// tick adds one to the lowest byte, and to each that follows one that comes round.
func (r rows) tick() {
	for i := range r.time {
		r.time[i]++
		if r.time[i] != 0 {
			return
		}
	}
}

// pending holds the time and the alarm against each other from their highest bytes down.
func (r rows) pending() uint64 {
	v := uint64(0)
	if r.msip[0] == 1 {
		v += 8
	}
	for i := 7; i >= 0; i-- {
		if r.time[i] != r.alarm[i] {
			if r.time[i] > r.alarm[i] {
				v += 128
			}
			return v
		}
	}
	return v + 128
}

func number(row []byte) uint64 {
	v := uint64(0)
	for _, b := range slices.Backward(row) {
		v = v*256 + uint64(b)
	}
	return v
}

// holds fails, if a clint isn't r, by what its calls tell.
func holds(t *testing.T, what string, c *clint.Clint, r rows) {
	t.Helper()
	for _, a := range accesses() {
		v, ok := c.Read(a.at, a.size)
		if w, _ := r.read(a); v != w || !ok {
			t.Fatalf("%s: Read(%#x, %d): %#x, %v, not %#x", what, a.at, a.size, v, ok, w)
		}
	}
	if v := c.Time(); v != number(r.time) {
		t.Fatalf("%s: Time: %#x, not %#x", what, v, number(r.time))
	}
	if v := c.Pending(); v != r.pending() {
		t.Fatalf("%s: Pending: %#x, not %#x", what, v, r.pending())
	}
}

// filled is a clint with three numbers in it, and the same as rows.
func filled(msip, alarm, time uint64) (*clint.Clint, rows) {
	c, r := clint.New(), newRows()
	for _, x := range []struct {
		access
		v uint64
	}{{access{0, 4}, msip}, {access{0x4000, 8}, alarm}, {access{0xbff8, 8}, time}} {
		c.Write(x.at, x.size, x.v)
		r.write(x.access, x.v)
	}
	return c, r
}
