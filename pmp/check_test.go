package pmp_test

import (
	"fmt"
	"math"
	"testing"

	"tandem/api"
	"tandem/pmp"
)

// isSize and isKind tell whether an access may be of these at all.
func isSize(size int) bool {
	return size == 1 || size == 2 || size == 4 || size == 8
}

func isKind(kind int) bool {
	return kind == api.Fetch || kind == api.Read || kind == api.Write || kind == api.Atomic
}

// all lets everybody do all, everywhere below 2^57.
func all() entries {
	return entries{settings{0x1f}, addresses{1<<54 - 1}}
}

// P11.2: of no kind, or of no size, nobody may do anything, in no mode and nowhere.
func TestCheckOfNoAccess(t *testing.T) {
	for _, kind := range kinds() {
		for _, size := range sizes() {
			for _, mode := range modes() {
				for _, at := range []uint64{0, 8, 0x80000000, 1<<57 - 8, 1 << 57, 1 << 63, math.MaxUint64} {
					a := access{mode, kind, at, size}
					is := isSize(size) && isKind(kind) && at+uint64(size) > at || at == math.MaxUint64 && size == 1 && isKind(kind)
					told{t}.check(entries{}, a, is && mode == api.Machine)
					told{t}.check(all(), a, is && (mode == api.Machine || at < 1<<57))
				}
			}
		}
	}
}

// P11.2: of 2^64 or more there is no byte; up to it there is.
func TestCheckAtTheEndOfAll(t *testing.T) {
	for _, size := range []int{1, 2, 4, 8} {
		for back := range uint64(20) {
			at := math.MaxUint64 - back
			for kind := range 4 {
				told{t}.check(entries{}, access{api.Machine, kind, at, size}, back >= uint64(size)-1)
				told{t}.check(all(), access{api.Machine, kind, at, size}, back >= uint64(size)-1)
				told{t}.check(all(), access{api.User, kind, at, size}, false)
			}
		}
	}
}

// P11.2: where no entry has a byte M may do all, the others nothing; a mode that is another number is taken for U.
func TestCheckWhereThereIsNoEntry(t *testing.T) {
	away := entries{settings{0x9f, 0x1f, 0x17}, addresses{0x20000000, 0x20000002, 0x20000010}}
	for _, e := range []entries{{}, away} {
		for _, mode := range modes() {
			for kind := range 4 {
				for _, size := range []int{1, 2, 4, 8} {
					for _, at := range []uint64{0, 1, 0x7fffffff - 7, 0x80000020, 0x80000044, 1 << 40, 1 << 60} {
						told{t}.check(e, access{mode, kind, at, size}, mode == api.Machine)
					}
				}
			}
		}
	}
}

// P11.2: what each setting allows, to whom, by each way.
func TestCheckWhatSettingsAllow(t *testing.T) {
	for s := range 256 {
		r, w, x, locked := s&1 != 0, s&2 != 0, s&4 != 0, s&128 != 0
		allowed := map[int]bool{api.Fetch: x, api.Read: r, api.Write: w, api.Atomic: r && w}
		for n := 1; n < 8; n++ {
			var e entries
			e.cfg[n], e.addr[n-1], e.addr[n] = uint8(s), 0x1000, 0x1001
			at := uint64(0x4004)
			switch s >> 3 & 3 {
			case 1:
				at = 0x4000
			case 3:
				at = 0x4007
			}
			for _, mode := range modes() {
				for kind := range 4 {
					want := mode == api.Machine && !locked || allowed[kind]
					if s>>3&3 == 0 {
						want = mode == api.Machine
					}
					told{t}.check(e, access{mode, kind, at, 1}, want)
				}
			}
		}
	}
}

// P11.2: a range is hit at each of its ends and between, in all sizes and at all addresses; in part is not enough, not even for M, not even where the entry allows all.
func TestCheckAroundTheEnds(t *testing.T) {
	rows := []struct {
		e           entries
		first, last uint64
	}{
		{entries{settings{0, 0x0f}, addresses{0x40, 0x44}}, 0x100, 0x10f},
		{entries{settings{0, 0x0f}, addresses{0x40, 0x41}}, 0x100, 0x103},
		{entries{settings{0, 0x17}, addresses{0, 0x40}}, 0x100, 0x103},
		{entries{settings{0, 0x1f}, addresses{0, 0x40}}, 0x100, 0x107},
		{entries{settings{0, 0x1f}, addresses{0, 0x41}}, 0x100, 0x10f},
		{entries{settings{0, 0x1f}, addresses{0, 0x5f}}, 0x100, 0x1ff},
	}
	for _, r := range rows {
		for _, lock := range []uint8{0, 0x80} {
			r.e.cfg[1] |= lock
			for at := r.first - 20; at < r.last+20; at++ {
				for _, size := range []int{1, 2, 4, 8} {
					end := at + uint64(size) - 1
					within, outside := r.first <= at && end <= r.last, end < r.first || r.last < at
					for kind := range 4 {
						told{t}.check(r.e, access{api.Machine, kind, at, size}, within || outside)
						told{t}.check(r.e, access{api.Supervisor, kind, at, size}, within)
						told{t}.check(r.e, access{api.User, kind, at, size}, within)
					}
				}
			}
		}
	}
}

// P11.2: an access that reaches beyond a small range at both its ends hits it in part.
func TestCheckAroundASmallRange(t *testing.T) {
	e := entries{settings{0, 0x17}, addresses{0, 0x40}}
	for at := uint64(0xf9); at <= 0x103; at++ {
		for _, mode := range modes() {
			told{t}.check(e, access{mode, api.Read, at, 8}, false)
		}
	}
	told{t}.check(e, access{api.Machine, api.Read, 0xf8, 8}, true)
	told{t}.check(e, access{api.Machine, api.Read, 0x104, 8}, true)
}

// P11.2: the ranges at the far ends: of 2^56 and 2^57 bytes, and those that begin at 0.
func TestCheckAtFarEnds(t *testing.T) {
	rows := []struct {
		e    entries
		last uint64
	}{
		{entries{settings{0x1f}, addresses{1<<54 - 1}}, 1<<57 - 1},
		{entries{settings{0x1f}, addresses{1<<53 - 1}}, 1<<56 - 1},
		{entries{settings{0x0f}, addresses{1<<54 - 1}}, 1<<56 - 5},
		{entries{settings{0x0f}, addresses{1}}, 3},
		{entries{settings{0x17}, addresses{0}}, 3},
	}
	for _, r := range rows {
		told{t}.check(r.e, access{api.User, api.Read, 0, 4}, true)
		told{t}.check(r.e, access{api.User, api.Read, r.last, 1}, true)
		told{t}.check(r.e, access{api.User, api.Read, r.last - 3, 4}, true)
		told{t}.check(r.e, access{api.User, api.Read, r.last - 2, 4}, false)
		told{t}.check(r.e, access{api.User, api.Read, r.last + 1, 1}, false)
		told{t}.check(r.e, access{api.Machine, api.Read, r.last, 2}, false)
		told{t}.check(r.e, access{api.Machine, api.Read, r.last + 1, 8}, true)
	}
	told{t}.check(entries{settings{0x17}, addresses{1<<54 - 1}}, access{api.User, api.Read, 1<<56 - 4, 4}, true)
	told{t}.check(entries{settings{0x17}, addresses{1<<54 - 1}}, access{api.Machine, api.Read, 1<<56 - 1, 8}, false)
}

// P11.2: of two entries that are hit the least one decides, whatever the other one allows, two by two.
func TestCheckTheLeastEntryDecides(t *testing.T) {
	for i := range 8 {
		for j := range 8 {
			if i == j {
				continue
			}
			for _, a := range []uint8{0x90, 0x91, 0x93, 0x97, 0x10, 0x11, 0x17} {
				for _, b := range []uint8{0x98, 0x99, 0x9b, 0x9f, 0x18, 0x19, 0x1f} {
					var e entries
					e.cfg[i], e.addr[i], e.cfg[j], e.addr[j] = a, 0x40, b, 0x41
					least := a
					if j < i {
						least = b
					}
					for _, mode := range []int{api.Machine, api.Supervisor, api.User} {
						free := mode == api.Machine && least < 0x80
						told{t}.check(e, access{mode, api.Read, 0x100, 4}, free || least&1 != 0)
						told{t}.check(e, access{mode, api.Write, 0x103, 1}, free || least&2 != 0)
						told{t}.check(e, access{mode, api.Fetch, 0x102, 2}, free || least&4 != 0)
						told{t}.check(e, access{mode, api.Atomic, 0x100, 8}, j < i && (free || least&3 == 3))
					}
				}
			}
		}
	}
}

// P11.2: the bytes of an access that lie in two ranges side by side don't go together.
func TestCheckDoesNotJoinRanges(t *testing.T) {
	e := entries{settings{0x17, 0x17, 0x0f}, addresses{0x40, 0x41, 0x44}}
	for _, mode := range modes() {
		told{t}.check(e, access{mode, api.Read, 0x100, 4}, true)
		told{t}.check(e, access{mode, api.Read, 0x104, 4}, true)
		told{t}.check(e, access{mode, api.Read, 0x100, 8}, false)
		told{t}.check(e, access{mode, api.Read, 0x104, 8}, false)
		told{t}.check(e, access{mode, api.Read, 0x108, 8}, true)
		told{t}.check(e, access{mode, api.Read, 0x103, 2}, false)
	}
}

// P11.2: an entry without a range is gone by: one that is off, and one up to where it begins, or less.
func TestCheckGoesByWhatHasNoRange(t *testing.T) {
	for _, none := range []entries{
		{settings{0x80, 0x87, 0, 0x1f}, addresses{0x40, 0x40, 0x40, 0x5f}},
		{settings{0x80, 0x88, 0x88, 0x1f}, addresses{0x41, 0x41, 0x40, 0x5f}},
		{settings{0x88, 0x88, 0x8f, 0x1f}, addresses{0, 0, 0, 0x5f}},
	} {
		for _, size := range []int{1, 2, 4, 8} {
			for kind := range 4 {
				told{t}.check(none, access{api.User, kind, 0x100, size}, true)
				told{t}.check(none, access{api.Machine, kind, 0x1f8, size}, true)
			}
		}
	}
}

// P11.2: each of the eight entries decides where it alone is hit.
func TestCheckEachEntryDecides(t *testing.T) {
	for n := range 8 {
		e := entries{}
		for i := range e.cfg {
			e.cfg[i], e.addr[i] = 0x90, uint64(0x40+i)
		}
		e.cfg[n] = 0x17
		for i := range uint64(8) {
			for kind := range 4 {
				told{t}.check(e, access{api.User, kind, 0x100 + 4*i, 4}, int(i) == n)
				told{t}.check(e, access{api.Machine, kind, 0x103 + 4*i, 1}, int(i) == n)
			}
		}
	}
}

// P11.2: many of any kind, held byte by byte; each way of ending is come to often.
func TestCheckManyByteByByte(t *testing.T) {
	d := dice(1106)
	count := map[string]int{}
	for range 20000 {
		e := d.entries()
		for range 20 {
			a := d.access(e)
			if a.at+uint64(a.size)-1 < a.at {
				told{t}.check(e, a, false)
				count["around"]++
				continue
			}
			want := e.lets(a)
			if pmp.Check(e.cfg, e.addr, a.mode, a.kind, a.at, a.size) != want {
				t.Fatalf("Check(%#x, %#x, %d, %d, %#x, %d): not %v", e.cfg, e.addr, a.mode, a.kind, a.at, a.size, want)
			}
			count[fmt.Sprint(e.decider(a), want)]++
		}
	}
	for n := range 9 {
		for _, want := range []bool{true, false} {
			if key := fmt.Sprint(n, want); count[key] < 100 {
				t.Errorf("%s: %d of them", key, count[key])
			}
		}
	}
	if count["around"] < 100 {
		t.Errorf("around: %d of them", count["around"])
	}
}
