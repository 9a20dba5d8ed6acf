package clint

import "math"

// The registers, by their places in what a Clint holds.
const (
	msip = iota
	mtimecmp
	mtime
	registers // how many there are
)

// The masks of a whole register and of a half.
const (
	whole = math.MaxUint64
	half  = math.MaxUint32
)

// A spot is what an access names: a place, and how many bytes.
type spot struct {
	at   uint64
	size int
}

// A part is what an access reads and writes: so much of a register as the mask lets through, from the bit up on.
type part struct {
	register, up int
	mask         uint64
}

// parts tells what there is to access. Of msip, one bit is enough: all others stay 0.
func parts() map[spot]part {
	return map[spot]part{
		{0, 4}:      {msip, 0, 1},
		{0x4000, 8}: {mtimecmp, 0, whole},
		{0x4000, 4}: {mtimecmp, 0, half},
		{0x4004, 4}: {mtimecmp, 32, half},
		{0xbff8, 8}: {mtime, 0, whole},
		{0xbff8, 4}: {mtime, 0, half},
		{0xbffc, 4}: {mtime, 32, half},
	}
}
