package plic_test

import (
	"maps"
	"math"
	"slices"
	"testing"

	"tandem/plic"
)

// dice tells numbers, always the same ones.
type dice uint64

func (d *dice) next() uint64 {
	*d += 0x9e3779b97f4a7c15
	z := uint64(*d)
	z = (z ^ z>>30) * 0xbf58476d1ce4e5b9
	z = (z ^ z>>27) * 0x94d049bb133111eb
	return z ^ z>>31
}

func (d *dice) below(n uint64) uint64 {
	return d.next() % n
}

// The registers of the contexts, as the chapter's table has them.
func enables(c int) uint64    { return []uint64{0x2000, 0x2080}[c] }
func thresholds(c int) uint64 { return []uint64{0x200000, 0x201000}[c] }
func claims(c int) uint64     { return []uint64{0x200004, 0x201004}[c] }
func priority(n int) uint64   { return uint64(4 * n) }

const waiters = 0x1000

// places are those of all registers.
func places() []uint64 {
	return []uint64{0, 4, 8, 12, 16, 20, 24, 28, 32, 0x1000, 0x2000, 0x2080, 0x200000, 0x200004, 0x201000, 0x201004}
}

// plain are those of the registers that are read without any change.
func plain() []uint64 {
	return slices.DeleteFunc(places(), func(at uint64) bool { return at%0x1000 == 4 && at > 4 })
}

// wrongSizes are sizes that no register has.
func wrongSizes() []int {
	return []int{1, 2, 8, 0, 3, 5, 6, 7, 12, 16, 32, -1, -2, -4, -8, math.MinInt, math.MinInt + 4, math.MaxInt, 1<<32 + 4, 1<<8 + 4, 1<<16 + 4}
}

// noSources are numbers of none.
func noSources() []int {
	return []int{0, 9, 10, 16, 31, 32, 64, 100, -1, -2, -8, -9, 256, 257, 1<<32 + 1, 1<<16 + 3, math.MaxInt, math.MinInt, math.MinInt + 1}
}

// sets is a second plic: what is true of sources is told by sets of their numbers.
type sets struct {
	up, waits, serves map[int]bool
	priority          map[int]uint64
	enabled           [2]map[int]bool
	threshold         [2]uint64
}

func newSets() *sets {
	return &sets{map[int]bool{}, map[int]bool{}, map[int]bool{}, map[int]uint64{}, [2]map[int]bool{{}, {}}, [2]uint64{}}
}

func (s *sets) copied() *sets {
	return &sets{maps.Clone(s.up), maps.Clone(s.waits), maps.Clone(s.serves), maps.Clone(s.priority), [2]map[int]bool{maps.Clone(s.enabled[0]), maps.Clone(s.enabled[1])}, s.threshold}
}

// settle lets all come in that can.
func (s *sets) settle() {
	for n := range s.up {
		if !s.serves[n] {
			s.waits[n] = true
		}
	}
}

func (s *sets) line(n int, up bool) bool {
	if n < 1 || n > 8 {
		return false
	}
	delete(s.up, n)
	if up {
		s.up[n] = true
	}
	s.settle()
	return true
}

// best is the first one in the order of what is greater, then of what is less.
func (s *sets) best(c int) int {
	order := []int{1, 2, 3, 4, 5, 6, 7, 8}
	slices.SortStableFunc(order, func(a, b int) int { return int(s.priority[b]) - int(s.priority[a]) })
	for _, n := range order {
		if s.waits[n] && s.enabled[c][n] && s.priority[n] != 0 {
			return n
		}
	}
	return 0
}

func (s *sets) pending() uint64 {
	v := uint64(0)
	for c, bit := range []uint64{2048, 512} {
		if n := s.best(c); n != 0 && s.priority[n] > s.threshold[c] {
			v += bit
		}
	}
	return v
}

// number is the bits of a set.
func number(set map[int]bool) uint64 {
	v := uint64(0)
	for n := range set {
		v += 1 << n
	}
	return v
}

func (s *sets) read(at uint64, size int) (uint64, bool) {
	if size != 4 || !slices.Contains(places(), at) {
		return 0, false
	}
	if at <= 32 {
		return s.priority[int(at/4)], true
	}
	if at == waiters {
		return number(s.waits), true
	}
	for c := range 2 {
		switch at {
		case enables(c):
			return number(s.enabled[c]), true
		case thresholds(c):
			return s.threshold[c], true
		case claims(c):
			n := s.best(c)
			if s.waits[n] {
				delete(s.waits, n)
				s.serves[n] = true
			}
			return uint64(n), true
		}
	}
	panic("a place that isn't read")
}

func (s *sets) write(at uint64, size int, v uint64) bool {
	if size != 4 || !slices.Contains(places(), at) {
		return false
	}
	v %= 1 << 32
	if at > 0 && at <= 32 {
		s.priority[int(at/4)] = v % 8
	}
	for c := range 2 {
		switch at {
		case enables(c):
			clear(s.enabled[c])
			for n := 1; n <= 8; n++ {
				if v>>n%2 == 1 {
					s.enabled[c][n] = true
				}
			}
		case thresholds(c):
			s.threshold[c] = v % 8
		case claims(c):
			if v < 9 && s.serves[int(v)] && s.enabled[c][int(v)] {
				delete(s.serves, int(v))
			}
			s.settle()
		}
	}
	return true
}

// same fails, if what is read of a plic without any change isn't that of s.
func same(t *testing.T, what string, p *plic.Plic, s *sets) {
	t.Helper()
	for _, at := range plain() {
		v, ok := p.Read(at, 4)
		if w, _ := s.read(at, 4); v != w || !ok {
			t.Fatalf("%s: Read(%#x, 4): %#x, %v, not %#x", what, at, v, ok, w)
		}
	}
	if v, w := p.Pending(), s.pending(); v != w {
		t.Fatalf("%s: Pending: %#x, not %#x", what, v, w)
	}
}

// holds fails, if a plic isn't s, by what can be read of it, and by what becomes of its copies: which source each context claims, which are in service, and whose lines are up.
func holds(t *testing.T, what string, p *plic.Plic, s *sets) {
	t.Helper()
	same(t, what, p, s)
	for c := range 2 {
		claimAll(t, what+", claimed", p.Copy(), s.copied(), c)
	}
	o, r := p.Copy(), s.copied()
	reset := func(at, v uint64) {
		o.Write(at, 4, v)
		r.write(at, 4, v)
	}
	reset(enables(0), 0x1fe)
	for n := 1; n <= 8; n++ {
		reset(priority(n), 1)
	}
	for range 2 { // first those in service, then all whose lines are up
		for n := range uint64(9) {
			reset(claims(0), n)
		}
		same(t, what+", let go", o, r)
		claimAll(t, what+", let go and claimed", o, r, 0)
	}
	same(t, what+", still", p, s)
}

// claimAll claims for one context till there is none.
func claimAll(t *testing.T, what string, p *plic.Plic, s *sets, c int) {
	t.Helper()
	for range 9 {
		v, ok := p.Read(claims(c), 4)
		if w, _ := s.read(claims(c), 4); v != w || !ok {
			t.Fatalf("%s by %d: %d, %v, not %d", what, c, v, ok, w)
		}
		same(t, what, p, s)
	}
}

// filled is a plic of any kind, and the same as sets: some sources wait, some are in service, with their lines up and down.
func filled(d *dice) (*plic.Plic, *sets) {
	p, s := plic.New(), newSets()
	write := func(at, v uint64) {
		p.Write(at, 4, v)
		s.write(at, 4, v)
	}
	for c := range 2 {
		write(enables(c), d.next()|d.next())
		write(thresholds(c), d.below(3))
	}
	for n := 1; n <= 8; n++ {
		write(priority(n), d.next())
		up := d.below(4) > 0
		p.Line(n, up)
		s.line(n, up)
	}
	for range d.below(4) {
		at := claims(int(d.below(2)))
		p.Read(at, 4)
		s.read(at, 4)
	}
	for n := 1; n <= 8; n++ {
		if d.below(3) == 0 {
			p.Line(n, false)
			s.line(n, false)
		}
	}
	return p, s
}
