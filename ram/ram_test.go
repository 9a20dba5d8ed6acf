package ram_test

import (
	"bytes"
	"math"
	"slices"
	"testing"

	"tandem/ram"
)

// P6.1: New.
func TestNewIsZeros(t *testing.T) {
	m := ram.New()
	holds(t, "New", m, newFlat())
	for at := base; at < end; at += 8 {
		if v, ok := m.Read(at, 8); v != 0 || !ok {
			t.Fatalf("Read(%#x, 8): %#x, %v", at, v, ok)
		}
	}
	m.Write(base, 1, 1)
	holds(t, "another New", ram.New(), newFlat())
}

// P6.1: Lay.
func TestLay(t *testing.T) {
	d := dice(61)
	for _, n := range []uint64{0, 1, 3, 8, pageSize - 1, pageSize, pageSize + 1, 5*pageSize + 77, size - 1, size} {
		m, f := filled(n, 300)
		image := make([]byte, n)
		for i := range image {
			image[i] = byte(d.next())
		}
		if !m.Lay(image) {
			t.Fatalf("%d bytes: false", n)
		}
		copy(f, image)
		holds(t, "Lay", m, f)
	}
	m, f := filled(1, 300)
	if !m.Lay(nil) {
		t.Error("no bytes: false")
	}
	holds(t, "Lay of none", m, f)
}

func TestLayOfZeros(t *testing.T) {
	m, f := filled(2, 300)
	if !m.Lay(make([]byte, 2*pageSize+5)) {
		t.Fatal("false")
	}
	clear(f[:2*pageSize+5])
	holds(t, "Lay of zeros", m, f)
}

func TestLayTooMany(t *testing.T) {
	m, f := filled(3, 300)
	for _, n := range []uint64{size + 1, size + pageSize, 2 * size} {
		if m.Lay(bytes.Repeat([]byte{0xa5}, int(n))) {
			t.Errorf("%d bytes: true", n)
		}
	}
	holds(t, "Lay of too many", m, f)
}

// R3: what is laid is neither changed nor kept, spare room included.
func TestLayKeepsNothing(t *testing.T) {
	for _, n := range []int{3, pageSize, 2*pageSize + 9} {
		row := bytes.Repeat([]byte{7}, n+2*pageSize)
		was := slices.Clone(row)
		m, f := ram.New(), newFlat()
		m.Lay(row[:n])
		copy(f, row[:n])
		m.Write(base+uint64(n)-1, 8, math.MaxUint64)
		f.write(base+uint64(n)-1, 8, math.MaxUint64)
		if !slices.Equal(row, was) {
			t.Fatalf("%d bytes: the image is another one", n)
		}
		for i := range row {
			row[i] = 9
		}
		holds(t, "Lay and the image changed", m, f)
	}
}

// sizes are those that numbers have, and many that none has.
var sizes = []int{1, 2, 4, 8, 0, -1, -2, -4, -8, 3, 5, 6, 7, 9, 12, 16, 32, 64, 256, pageSize, 1 << 20, math.MinInt, math.MinInt + 1, math.MinInt + 8, math.MaxInt, math.MaxInt - 7, 1<<32 + 1, 1<<32 + 4, 1<<33 + 8, 1<<40 + 2}

// places are addresses beside the ends of the RAM, of its pages, and of all numbers.
func places() []uint64 {
	var l []uint64
	for _, at := range []uint64{0, base, base + pageSize, base + 7*pageSize, end - pageSize, end, base << 1, 1 << 32, 1<<32 + base, base << 32, 1 << 63, 1<<63 + base, base - size} {
		for k := range uint64(33) {
			l = append(l, at+k-16)
		}
	}
	return l
}

// P6.2: what is there, what is read and what is refused.
func TestHasReadWriteAtEdges(t *testing.T) {
	m, f := filled(4, 3000)
	for _, at := range places() {
		for _, n := range sizes {
			if m.Has(at, n) != there(at, n) {
				t.Fatalf("Has(%#x, %d): %v", at, n, !there(at, n))
			}
			v, ok := m.Read(at, n)
			if w, o := f.read(at, n); v != w || ok != o {
				t.Fatalf("Read(%#x, %d): %#x, %v, not %#x, %v", at, n, v, ok, w, o)
			}
		}
	}
	holds(t, "Has and Read", m, f)
	d := dice(62)
	for _, at := range places() {
		for _, n := range sizes {
			v := d.next()
			if ok := m.Write(at, n, v); ok != f.write(at, n, v) {
				t.Fatalf("Write(%#x, %d): %v", at, n, ok)
			}
		}
	}
	holds(t, "Write", m, f)
}

func TestRefusedWriteChangesNothing(t *testing.T) {
	m, f := filled(5, 300)
	for _, at := range places() {
		for _, n := range sizes {
			if !there(at, n) && m.Write(at, n, math.MaxUint64) {
				t.Fatalf("Write(%#x, %d): true", at, n)
			}
		}
	}
	holds(t, "refused writes", m, f)
	e := ram.New()
	if e.Write(end-4, 8, 1) || e.Write(base-1, 2, 256) || e.Write(math.MaxUint64, 2, 1) || len(e.Pages()) != 0 || !e.Same(ram.New()) {
		t.Error("a refused write leaves something")
	}
}

// P6.2: the lowest bytes of the number alone are written, all others stay.
func TestWriteTouchesItsBytesAlone(t *testing.T) {
	for _, under := range []uint64{0, math.MaxUint64} {
		for _, at := range []uint64{base + 16, base + pageSize - 3, base + pageSize, end - 24} {
			for _, n := range []int{1, 2, 4, 8} {
				m, f := ram.New(), newFlat()
				for k := uint64(0); k < 4; k++ {
					m.Write(at-8+8*k, 8, under)
					f.write(at-8+8*k, 8, under)
				}
				v := uint64(0x8877665544332211) ^ under
				if !m.Write(at, n, v) {
					t.Fatalf("Write(%#x, %d): false", at, n)
				}
				f.write(at, n, v)
				holds(t, "Write", m, f)
			}
		}
	}
}

// P6.3: pages with something in them, by rising address, in whatever order they were written.
func TestPagesRise(t *testing.T) {
	d := dice(63)
	m, f := ram.New(), newFlat()
	left := make([]uint64, size/pageSize)
	for i := range left {
		left[i] = uint64(i)
	}
	for len(left) > 0 {
		i := d.below(uint64(len(left)))
		at := base + left[i]*pageSize + d.below(pageSize)
		left = slices.Delete(left, int(i), int(i)+1)
		m.Write(at, 1, 1+d.below(255))
		f.write(at, 1, 1)
		if l := m.Pages(); !slices.Equal(l, f.pages()) {
			t.Fatalf("pages %#x, not %#x", l, f.pages())
		}
	}
	if l := m.Pages(); len(l) != 256 || l[0] != base || l[255] != 0x800ff000 {
		t.Fatalf("pages %#x", l)
	}
}

// P6.3: one byte that isn't 0, wherever in its page, is enough; a page of zeros is none.
func TestPagesByOneByte(t *testing.T) {
	for far := range uint64(pageSize) {
		m := ram.New()
		at := base + 5*pageSize + far
		m.Write(at, 1, 0x80)
		if l := m.Pages(); !slices.Equal(l, []uint64{0x80005000}) {
			t.Fatalf("a byte at %#x: pages %#x", at, l)
		}
		m.Write(at, 1, 0x100)
		if l := m.Pages(); len(l) != 0 {
			t.Fatalf("0 at %#x: pages %#x", at, l)
		}
	}
}

// R3: an answer is new memory.
func TestPagesAreNewMemory(t *testing.T) {
	m, f := filled(6, 50)
	l := m.Pages()
	l = l[:cap(l)]
	for i := range l {
		l[i] = 1
	}
	holds(t, "Pages changed", m, f)
}

// P6.4: a copy has the same bytes, and goes its own way; so does what it was made of.
func TestCopy(t *testing.T) {
	m, f := filled(7, 500)
	o, g := m.Copy(), slices.Clone(f)
	holds(t, "a copy", o, g)
	if !m.Same(o) || !o.Same(m) {
		t.Error("a copy isn't the same")
	}
	for i, at := range []uint64{f.pages()[0] + 1, base + 90*pageSize, end - 8} {
		o.Write(at, 4, uint64(i)+0xabcdef00)
		g.write(at, 4, uint64(i)+0xabcdef00)
		m.Write(at+1, 4, uint64(i)+0x12345600)
		f.write(at+1, 4, uint64(i)+0x12345600)
	}
	holds(t, "what was copied", m, f)
	holds(t, "the copy", o, g)
	if m.Same(o) || o.Same(m) {
		t.Error("same, though each was written")
	}
	m.Lay(bytes.Repeat([]byte{0x5a}, int(size)))
	holds(t, "the copy, once more", o, g)
	c := ram.New().Copy()
	c.Write(base, 8, 3)
	c.Copy().Write(base, 8, 4)
	if v, ok := c.Read(base, 8); v != 3 || !ok {
		t.Error("a copy of an empty one", v, ok)
	}
}

// P6.4: one bit anywhere parts two memories, whichever of both is asked.
func TestSameByOneByte(t *testing.T) {
	d := dice(64)
	m, _ := filled(8, 500)
	for range 2000 {
		o, at := m.Copy(), d.place()
		v, ok := o.Read(at, 1)
		if !ok {
			continue
		}
		o.Write(at, 1, v^1<<d.below(8))
		if m.Same(o) || o.Same(m) {
			t.Fatalf("a bit at %#x: same", at)
		}
		o.Write(at, 1, v)
		if !m.Same(o) || !o.Same(m) || !m.Same(m) {
			t.Fatalf("as before at %#x: not the same", at)
		}
	}
}

// P6.4: a page that was written with zeros is as one that wasn't.
func TestSameWithZeros(t *testing.T) {
	m, o := ram.New(), ram.New()
	same := func(what string, want bool) {
		t.Helper()
		if m.Same(o) != want || o.Same(m) != want {
			t.Error(what)
		}
	}
	same("two new ones", true)
	m.Write(base+3*pageSize, 8, 0)
	same("zeros in one", true)
	o.Write(base+9*pageSize-4, 8, 0)
	same("zeros in both", true)
	o.Write(base+3*pageSize+4095, 1, 1)
	same("a byte in a page of zeros", false)
	m.Write(base+5*pageSize, 1, 1)
	same("a byte each in other pages", false)
	o.Write(base+3*pageSize+4095, 1, 0)
	same("a byte in a page that the other one hasn't", false)
	m.Write(base+5*pageSize, 1, 0)
	same("all written over with zeros", true)
	m.Lay(make([]byte, size))
	same("all laid with zeros", true)
	m.Write(base+3*pageSize, 1, 1)
	o.Write(base+3*pageSize+1, 1, 1)
	same("one byte each in one page", false)
	m.Write(base+3*pageSize, 2, 0x100)
	same("the same byte", true)
}

// P6.5: many calls of all kinds on several memories, each beside a row of bytes.
func TestMemoriesBesideRows(t *testing.T) {
	d := dice(65)
	ms := []*ram.Memory{ram.New(), ram.New(), ram.New()}
	fs := []flat{newFlat(), newFlat(), newFlat()}
	for step := range 40000 {
		i, at, n := d.below(3), d.place(), 1<<d.below(4)
		m, f := ms[i], fs[i]
		switch k := d.below(2000); {
		case k < 2:
			image := make([]byte, d.below(3*pageSize))
			for i := range image {
				image[i] = byte(d.next())
			}
			if !m.Lay(image) {
				t.Fatal(step, "Lay")
			}
			copy(f, image)
		case k < 4:
			o := d.below(3)
			ms[o], fs[o] = m.Copy(), slices.Clone(f)
		case k < 8:
			o := d.below(3)
			if m.Same(ms[o]) != slices.Equal(f, fs[o]) {
				t.Fatal(step, "Same")
			}
		case k < 1000:
			v := d.next() & -d.below(2)
			if m.Write(at, n, v) != f.write(at, n, v) {
				t.Fatalf("%d: Write(%#x, %d)", step, at, n)
			}
		default:
			v, ok := m.Read(at, n)
			if w, o := f.read(at, n); v != w || ok != o {
				t.Fatalf("%d: Read(%#x, %d): %#x, %v, not %#x, %v", step, at, n, v, ok, w, o)
			}
		}
	}
	for i := range ms {
		holds(t, "in the end", ms[i], fs[i])
	}
}

// P6.5: a number is its bytes, read one by one.
func TestNumberIsItsBytes(t *testing.T) {
	m, _ := filled(9, 5000)
	d := dice(66)
	for range 20000 {
		at, n := d.place(), 1<<d.below(4)
		v, ok := m.Read(at, n)
		if !ok {
			continue
		}
		for i := range n {
			if b, ok := m.Read(at+uint64(i), 1); b != v>>(8*i)&255 || !ok {
				t.Fatalf("Read(%#x, %d): %#x, but its byte %d: %#x, %v", at, n, v, i, b, ok)
			}
		}
		if n < 8 && v>>(8*n) != 0 {
			t.Fatalf("Read(%#x, %d): %#x", at, n, v)
		}
	}
}

// R4: what is asked changes nothing.
func TestAskingChangesNothing(t *testing.T) {
	m, f := filled(10, 500)
	o, g := filled(11, 500)
	for range 3 {
		m.Has(base, 8)
		m.Pages()
		m.Copy()
		if m.Same(o) || o.Same(m) {
			t.Fatal("two of different bytes: same")
		}
		holds(t, "the one asked", m, f)
		holds(t, "the other one", o, g)
	}
}
