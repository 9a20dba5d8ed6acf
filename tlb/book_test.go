package tlb_test

import (
	"math/big"
	"testing"

	"tandem/tlb"
)

// A book is a second tlb: a row of places gone through one by one; nil is an empty one.
type book struct {
	row  [8]*tlb.Entry
	seed *big.Int
}

func newBook(seed uint64) *book {
	return &book{seed: new(big.Int).SetUint64(seed)}
}

// span is how many bytes a page of a level has; 0: there is no such level.
func span(level int) uint64 {
	switch level {
	case 0:
		return 4 << 10
	case 1:
		return 2 << 20
	case 2:
		return 1 << 30
	}
	return 0
}

// in tells whether an address is one of the page's.
func in(e tlb.Entry, at uint64) bool {
	return at >= e.At && at-e.At < span(e.Level)
}

func same(e, f tlb.Entry) bool {
	if e.At != f.At || e.Level != f.Level || e.Global != f.Global {
		return false
	}
	return e.Global || e.Space == f.Space
}

func (b *book) find(space, at uint64) (tlb.Entry, bool) {
	for _, e := range b.row {
		if e != nil && in(*e, at) && (e.Global || e.Space == space) {
			return *e, true
		}
	}
	return tlb.Entry{}, false
}

func (b *book) put(e tlb.Entry) bool {
	if s := span(e.Level); s == 0 || e.At%s != 0 || e.Space >= 65536 {
		return false
	}
	for n, o := range b.row {
		if o != nil && same(*o, e) {
			b.row[n] = &e
			return true
		}
	}
	for n, o := range b.row {
		if o == nil {
			b.row[n] = &e
			return true
		}
	}
	b.row[b.given()] = &e
	return true
}

// given lets the seed go on, and tells the place that is given up.
func (b *book) given() uint64 {
	factor, more := big.NewInt(6364136223846793005), big.NewInt(1442695040888963407)
	b.seed = new(big.Int).Add(new(big.Int).Mul(factor, b.seed), more)
	b.seed.Mod(b.seed, new(big.Int).Lsh(big.NewInt(1), 64))
	return new(big.Int).Rsh(b.seed, 61).Uint64()
}

func (b *book) fence(byAt bool, at uint64, bySpace bool, space uint64) {
	for n, e := range b.row {
		if e == nil {
			continue
		}
		if byAt && !in(*e, at) {
			continue
		}
		if bySpace && (e.Global || e.Space != space) {
			continue
		}
		b.row[n] = nil
	}
}

func (b *book) all() []tlb.Entry {
	var l []tlb.Entry
	for _, e := range b.row {
		if e != nil {
			l = append(l, *e)
		}
	}
	return l
}

func (b *book) copied() *book {
	return &book{row: b.row, seed: b.seed}
}

// A pair is a tlb and a book that are told the same.
type pair struct {
	told
	b *book
}

func paired(t *testing.T, seed uint64) pair {
	return pair{made(t, seed), newBook(seed)}
}

func (o pair) both() pair {
	return pair{o.copied(), o.b.copied()}
}

// alike holds that both find the same.
func (o pair) alike(space, at uint64) {
	o.t.Helper()
	if e, ok := o.b.find(space, at); ok {
		o.finds(space, at, e)
	} else {
		o.misses(space, at)
	}
}

// step does something to both.
func (o pair) step(d *dice) {
	o.t.Helper()
	switch d.below(16) {
	case 0:
		byAt, at, bySpace, space := d.one(2), d.address(), d.one(2), d.space()
		if !byAt && !bySpace && !d.one(8) {
			byAt = true // all of them go seldom, so that most often there are some
		}
		o.x.Fence(byAt, at, bySpace, space)
		o.b.fence(byAt, at, bySpace, space)
	default:
		e := d.entry()
		if ok, want := o.x.Put(e), o.b.put(e); ok != want {
			o.t.Fatalf("Put(%+v): %v", e, ok)
		}
	}
	o.holds(o.b.all()...)
	for range 4 {
		o.alike(d.space(), d.address())
	}
}

// P15.1 to P15.4: many calls on several of them and their copies, as the book has it.
func TestAsTheBookHasIt(t *testing.T) {
	d := dice(1500)
	for range 200 {
		l := []pair{paired(t, d.next())}
		for range 400 {
			n := d.below(uint64(len(l)))
			l[n].step(&d)
			if d.one(40) && len(l) < 5 {
				l = append(l, l[n].both())
			} else if d.one(40) {
				l[d.below(uint64(len(l)))] = l[n].both()
			}
		}
		for _, o := range l {
			o.holds(o.b.all()...)
		}
	}
}
