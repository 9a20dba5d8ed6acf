package csr_test

import "tandem/api"

// A row is one of the chapter's table, read a second time: bit by bit, and with who may touch it written out.
type row struct {
	first, last int
	lowest      int
	writable    bool
	read        func(c api.Csrs, i int, lines, time uint64) uint64
	write       func(c *api.Csrs, i int, v uint64) // nil: nothing
}

// bit is one of a number's.
func bit(v uint64, n int) bool {
	return v/(1<<n)%2 == 1
}

// only is what a number is with these bits alone.
func only(v uint64, bits ...int) uint64 {
	sum := uint64(0)
	for _, n := range bits {
		if bit(v, n) {
			sum += 1 << n
		}
	}
	return sum
}

// without is what a number is with these bits 0.
func without(v uint64, bits ...int) uint64 {
	return v - only(v, bits...)
}

// put lets these bits of a number be those of another one.
func put(p *uint64, v uint64, bits ...int) {
	*p = without(*p, bits...) + only(v, bits...)
}

// span are bits that stand side by side.
func span(first, last int) []int {
	var l []int
	for n := first; n <= last; n++ {
		l = append(l, n)
	}
	return l
}

// held are the bits that a number has.
func held(v uint64) []int {
	var l []int
	for n := range 64 {
		if bit(v, n) {
			l = append(l, n)
		}
	}
	return l
}

// settle lets Mstatus be as each write of it has it.
func settle(c *api.Csrs) {
	c.Mstatus = only(c.Mstatus, 1, 3, 5, 7, 8, 11, 12, 13, 14, 17, 18, 19, 20, 21, 22) + 1<<33 + 1<<35
	if bit(c.Mstatus, 13) && bit(c.Mstatus, 14) {
		c.Mstatus += 1 << 63
	}
}

// float lets FS be 3.
func float(c *api.Csrs) {
	put(&c.Mstatus, all, 13, 14)
	settle(c)
}

// nought reads as nothing else.
func nought(api.Csrs, int, uint64, uint64) uint64 {
	return 0
}

// own is a row of one register that reads a field as it is, and is written by what is left of a number.
func own(n, lowest int, field func(c *api.Csrs) *uint64, leaves func(v uint64) uint64) row {
	read := func(c api.Csrs, _ int, _, _ uint64) uint64 {
		return *field(&c)
	}
	return row{n, n, lowest, true, read, func(c *api.Csrs, _ int, v uint64) {
		*field(c) = leaves(v)
	}}
}

// whole leaves all bits, which leaves some, but all others.
func whole(v uint64) uint64 {
	return v
}

func which(bits ...int) func(uint64) uint64 {
	return func(v uint64) uint64 { return only(v, bits...) }
}

func but(bits ...int) func(uint64) uint64 {
	return func(v uint64) uint64 { return without(v, bits...) }
}

// sees is what mip reads.
func sees(c api.Csrs, lines uint64) uint64 {
	put(&lines, 0, held(c.Mip)...)
	return c.Mip + only(lines, 3, 7, 9, 11)
}

// userRows are those of the floats' registers and of the counters.
func userRows() []row {
	return []row{
		{1, 1, 0, true, func(c api.Csrs, _ int, _, _ uint64) uint64 { return c.Fcsr % 32 }, func(c *api.Csrs, _ int, v uint64) {
			put(&c.Fcsr, v, 0, 1, 2, 3, 4)
			float(c)
		}},
		{2, 2, 0, true, func(c api.Csrs, _ int, _, _ uint64) uint64 { return c.Fcsr / 32 % 8 }, func(c *api.Csrs, _ int, v uint64) {
			put(&c.Fcsr, v%8*32, 5, 6, 7)
			float(c)
		}},
		{3, 3, 0, true, func(c api.Csrs, _ int, _, _ uint64) uint64 { return c.Fcsr }, func(c *api.Csrs, _ int, v uint64) {
			c.Fcsr = v % 256
			float(c)
		}},
		{0xc00, 0xc00, 0, false, func(c api.Csrs, _ int, _, _ uint64) uint64 { return c.Mcycle }, nil},
		{0xc01, 0xc01, 0, false, func(_ api.Csrs, _ int, _, time uint64) uint64 { return time }, nil},
		{0xc02, 0xc02, 0, false, func(c api.Csrs, _ int, _, _ uint64) uint64 { return c.Minstret }, nil},
		{0xc03, 0xc1f, 0, false, nought, nil},
	}
}

func supervisorRows() []row {
	return []row{
		{0x100, 0x100, 1, true, func(c api.Csrs, _ int, _, _ uint64) uint64 {
			return only(c.Mstatus, 1, 5, 8, 13, 14, 18, 19, 33, 63)
		}, func(c *api.Csrs, _ int, v uint64) {
			put(&c.Mstatus, v, 1, 5, 8, 13, 14, 18, 19)
			settle(c)
		}},
		{0x104, 0x104, 1, true, func(c api.Csrs, _ int, _, _ uint64) uint64 {
			return only(c.Mie, held(c.Mideleg)...)
		}, func(c *api.Csrs, _ int, v uint64) {
			put(&c.Mie, v, held(c.Mideleg)...)
		}},
		own(0x105, 1, func(c *api.Csrs) *uint64 { return &c.Stvec }, but(1)),
		own(0x106, 1, func(c *api.Csrs) *uint64 { return &c.Scounteren }, which(0, 1, 2)),
		{0x10a, 0x10a, 1, true, nought, nil},
		own(0x140, 1, func(c *api.Csrs) *uint64 { return &c.Sscratch }, whole),
		own(0x141, 1, func(c *api.Csrs) *uint64 { return &c.Sepc }, but(0)),
		own(0x142, 1, func(c *api.Csrs) *uint64 { return &c.Scause }, whole),
		own(0x143, 1, func(c *api.Csrs) *uint64 { return &c.Stval }, whole),
		{0x144, 0x144, 1, true, func(c api.Csrs, _ int, lines, _ uint64) uint64 {
			return only(sees(c, lines), held(c.Mideleg)...)
		}, func(c *api.Csrs, _ int, v uint64) {
			if bit(c.Mideleg, 1) {
				put(&c.Mip, v, 1)
			}
		}},
		{0x180, 0x180, 1, true, func(c api.Csrs, _ int, _, _ uint64) uint64 { return c.Satp }, func(c *api.Csrs, _ int, v uint64) {
			if !bit(v, 60) && !bit(v, 61) && !bit(v, 62) {
				c.Satp = v
			}
		}},
	}
}

func machineRows() []row {
	return []row{
		{0x300, 0x300, 3, true, func(c api.Csrs, _ int, _, _ uint64) uint64 { return c.Mstatus }, func(c *api.Csrs, _ int, v uint64) {
			put(&c.Mstatus, v, 1, 3, 5, 7, 8, 13, 14, 17, 18, 19, 20, 21, 22)
			if bit(v, 11) || !bit(v, 12) {
				put(&c.Mstatus, v, 11, 12)
			}
			settle(c)
		}},
		{0x301, 0x301, 3, true, func(api.Csrs, int, uint64, uint64) uint64 { return 0x800000000014112d }, nil},
		own(0x302, 3, func(c *api.Csrs) *uint64 { return &c.Medeleg }, which(1, 2, 3, 4, 5, 6, 7, 8, 9, 12, 13, 15)),
		own(0x303, 3, func(c *api.Csrs) *uint64 { return &c.Mideleg }, which(1, 5, 9)),
		own(0x304, 3, func(c *api.Csrs) *uint64 { return &c.Mie }, which(1, 3, 5, 7, 9, 11)),
		own(0x305, 3, func(c *api.Csrs) *uint64 { return &c.Mtvec }, but(1)),
		own(0x306, 3, func(c *api.Csrs) *uint64 { return &c.Mcounteren }, which(0, 1, 2)),
		{0x30a, 0x30a, 3, true, nought, nil},
		own(0x320, 3, func(c *api.Csrs) *uint64 { return &c.Mcountinhibit }, which(0, 2)),
		{0x323, 0x33f, 3, true, nought, nil},
		own(0x340, 3, func(c *api.Csrs) *uint64 { return &c.Mscratch }, whole),
		own(0x341, 3, func(c *api.Csrs) *uint64 { return &c.Mepc }, but(0)),
		own(0x342, 3, func(c *api.Csrs) *uint64 { return &c.Mcause }, whole),
		own(0x343, 3, func(c *api.Csrs) *uint64 { return &c.Mtval }, whole),
		{0x344, 0x344, 3, true, func(c api.Csrs, _ int, lines, _ uint64) uint64 { return sees(c, lines) }, func(c *api.Csrs, _ int, v uint64) {
			put(&c.Mip, v, 1, 5, 9)
		}},
		{0x3a0, 0x3a0, 3, true, func(c api.Csrs, _ int, _, _ uint64) uint64 {
			v := uint64(0)
			for n := 7; n >= 0; n-- {
				v = v*256 + uint64(c.Pmpcfg[n])
			}
			return v
		}, writeSettings},
		{0x3a2, 0x3a2, 3, true, nought, nil},
		{0x3b0, 0x3b7, 3, true, func(c api.Csrs, i int, _, _ uint64) uint64 { return c.Pmpaddr[i] }, writeAddress},
		{0x3b8, 0x3bf, 3, true, nought, nil},
		own(0xb00, 3, func(c *api.Csrs) *uint64 { return &c.Mcycle }, whole),
		own(0xb02, 3, func(c *api.Csrs) *uint64 { return &c.Minstret }, whole),
		{0xb03, 0xb1f, 3, true, nought, nil},
		{0xf11, 0xf15, 3, false, nought, nil},
	}
}

// writeSettings is chapter 11's write of the settings.
func writeSettings(c *api.Csrs, _ int, v uint64) {
	for n, old := range c.Pmpcfg {
		b := uint8(v)
		if old < 128 && b%4 != 2 {
			c.Pmpcfg[n] = b%32 + b/128*128
		}
		v /= 256
	}
}

// writeAddress is chapter 11's write of an address.
func writeAddress(c *api.Csrs, i int, v uint64) {
	kept := c.Pmpcfg[i] >= 128 || i < 7 && c.Pmpcfg[i+1] >= 128 && c.Pmpcfg[i+1]/8%4 == 1
	if !kept {
		c.Pmpaddr[i] = v % (1 << 54)
	}
}

// book has the row of each number that a register has.
var book = byNumber(userRows(), supervisorRows(), machineRows())

func byNumber(parts ...[]row) map[int]row {
	m := map[int]row{}
	for _, rows := range parts {
		for _, r := range rows {
			for n := r.first; n <= r.last; n++ {
				m[n] = r
			}
		}
	}
	return m
}

// find tells the row of a number; false: there is no such register.
func find(n int) (row, bool) {
	r, there := book[n]
	return r, there
}

// reads is what a number reads.
func reads(c api.Csrs, n int, lines, time uint64) uint64 {
	if r, there := find(n); there {
		return r.read(c, n-r.first, lines, time)
	}
	return 0
}

// leaves is what a write leaves.
func leaves(c api.Csrs, n int, v uint64) api.Csrs {
	if r, there := find(n); there && r.write != nil {
		r.write(&c, n-r.first, v)
	}
	return c
}

// lets tells whether a number of a row may be touched.
func (r row) lets(c api.Csrs, mode, n int, write bool) bool {
	if mode != 3 && mode != 1 {
		mode = 0
	}
	if mode < r.lowest || write && !r.writable {
		return false
	}
	switch {
	case n <= 3:
		return bit(c.Mstatus, 13) || bit(c.Mstatus, 14)
	case n == 0x180 && mode == 1:
		return !bit(c.Mstatus, 20)
	case n >= 0xc00 && n <= 0xc1f && mode == 1:
		return bit(c.Mcounteren, n-0xc00)
	case n >= 0xc00 && n <= 0xc1f && mode == 0:
		return bit(c.Mcounteren, n-0xc00) && bit(c.Scounteren, n-0xc00)
	}
	return true
}
