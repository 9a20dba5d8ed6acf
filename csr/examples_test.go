package csr_test

import (
	"testing"

	"tandem/api"
	"tandem/csr"
)

// The chapter's examples, row by row.

func TestExamplesOfReset(t *testing.T) {
	told{t}.read(csr.Reset(), 0x300, 0, 0, 0xa00000000)
	told{t}.read(csr.Reset(), 0x301, 0, 0, 0x800000000014112d)
	told{t}.read(csr.Reset(), 0x100, 0, 0, 0x200000000)
}

func TestExamplesOfMstatus(t *testing.T) {
	c := csr.Write(csr.Reset(), 0x300, 0xffffffffffffffff)
	told{t}.read(c, 0x300, 0, 0, 0x8000000a007e79aa)
	c = behind(csr.Reset(), api.Lay{Csr: 0x300, Value: 0x1800}, api.Lay{Csr: 0x300, Value: 0x1000})
	told{t}.read(c, 0x300, 0, 0, 0xa00001800)
}

func TestExamplesOfSatp(t *testing.T) {
	c := csr.Reset()
	told{t}.write(c, 0x180, 0x9000000000000000, c)
	want := c
	want.Satp = 0x8000000000000001
	told{t}.write(c, 0x180, 0x8000000000000001, want)
	told{t}.read(want, 0x180, 0, 0, 0x8000000000000001)
}

func TestExamplesOfInterrupts(t *testing.T) {
	told{t}.read(csr.Write(csr.Reset(), 0x344, 0xfff), 0x344, 0x888, 0, 0xaaa)
	c := behind(csr.Reset(), api.Lay{Csr: 0x304, Value: 0xfff}, api.Lay{Csr: 0x303, Value: 0xfff})
	told{t}.read(c, 0x104, 0, 0, 0x222)
}

func TestExamplesOfCounters(t *testing.T) {
	c := csr.Reset()
	told{t}.may(c, api.User, 0xc00, false, false)
	c = csr.Write(c, 0x306, 1)
	told{t}.may(c, api.User, 0xc00, false, false)
	c = csr.Write(c, 0x106, 1)
	told{t}.may(c, api.User, 0xc00, false, true)
}

func TestExamplesOfMay(t *testing.T) {
	c := csr.Reset()
	told{t}.may(c, api.Machine, 0x3b0, true, true)
	told{t}.may(c, api.Machine, 0xf14, true, false)
	told{t}.may(c, api.Supervisor, 0x300, false, false)
	told{t}.may(c, api.Machine, 0x7c0, false, false)
	told{t}.may(c, api.Machine, 0x003, false, false)
	told{t}.may(csr.Write(c, 0x300, 1<<20), api.Supervisor, 0x180, false, false)
}
