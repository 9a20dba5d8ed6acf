package ram_test

import (
	"math/big"
	"slices"
	"testing"

	"tandem/api"
	"tandem/ram"
)

const (
	base     = uint64(api.RamBase)
	size     = uint64(api.RamSize)
	end      = base + size
	pageSize = 4096
)

// dice tells numbers, always the same ones.
type dice uint64

func (d *dice) next() uint64 {
	*d += 0x9e3779b97f4a7c15
	z := uint64(*d)
	z = (z ^ z>>30) * 0xbf58476d1ce4e5b9
	z = (z ^ z>>27) * 0x94d049bb133111eb
	return z ^ z>>31
}

func (d *dice) below(n uint64) uint64 {
	return d.next() % n
}

// place is an address of the RAM, often one beside the end of a page or of all.
func (d *dice) place() uint64 {
	switch d.below(4) {
	case 0:
		return base + d.below(size)
	case 1:
		return base + d.below(3*pageSize)
	case 2:
		return base + d.below(size/pageSize+1)*pageSize - 8 + d.below(16)
	}
	return end - d.below(20)
}

// flat is a second RAM, one row of bytes.
type flat []byte

func newFlat() flat {
	return make(flat, size)
}

// there tells by whole numbers without end whether a number is there.
func there(at uint64, n int) bool {
	if n != 1 && n != 2 && n != 4 && n != 8 {
		return false
	}
	first := new(big.Int).SetUint64(at)
	behind := new(big.Int).Add(first, big.NewInt(int64(n)))
	return first.Cmp(new(big.Int).SetUint64(base)) >= 0 && behind.Cmp(new(big.Int).SetUint64(end)) <= 0
}

func (f flat) read(at uint64, n int) (uint64, bool) {
	if !there(at, n) {
		return 0, false
	}
	v := uint64(0)
	for i := n - 1; i >= 0; i-- {
		v = v*256 + uint64(f[at-base+uint64(i)])
	}
	return v, true
}

func (f flat) write(at uint64, n int, v uint64) bool {
	if !there(at, n) {
		return false
	}
	for i := range n {
		f[at-base+uint64(i)] = byte(v % 256)
		v /= 256
	}
	return true
}

func (f flat) pages() []uint64 {
	var l []uint64
	for p := uint64(0); p < size; p += pageSize {
		if slices.ContainsFunc(f[p:p+pageSize], func(b byte) bool { return b != 0 }) {
			l = append(l, base+p)
		}
	}
	return l
}

// bytesOf reads all of a memory, byte by byte.
func bytesOf(t *testing.T, m *ram.Memory) flat {
	t.Helper()
	f := newFlat()
	for i := range f {
		v, ok := m.Read(base+uint64(i), 1)
		if !ok || v > 255 {
			t.Fatalf("byte %#x: %#x, %v", base+uint64(i), v, ok)
		}
		f[i] = byte(v)
	}
	return f
}

// holds fails, if a memory isn't f, by its bytes or its pages.
func holds(t *testing.T, what string, m *ram.Memory, f flat) {
	t.Helper()
	if g := bytesOf(t, m); !slices.Equal(f, g) {
		for i := range f {
			if f[i] != g[i] {
				t.Fatalf("%s: %#x stands at %#x, not %#x", what, g[i], base+uint64(i), f[i])
			}
		}
	}
	if l := m.Pages(); !slices.Equal(l, f.pages()) {
		t.Fatalf("%s: pages %#x, not %#x", what, l, f.pages())
	}
}

// filled is a memory with some bytes in it, and the same as a row.
func filled(seed, writes uint64) (*ram.Memory, flat) {
	m, f, d := ram.New(), newFlat(), dice(seed)
	for range writes {
		at, n, v := d.place(), 1<<d.below(4), d.next()
		m.Write(at, n, v)
		f.write(at, n, v)
	}
	return m, f
}
