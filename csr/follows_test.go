package csr_test

import (
	"testing"

	"tandem/api"
	"tandem/csr"
)

// many are registers that hold what many writes have left, step by step.
func many(t *testing.T, seed dice, check func(d *dice, c api.Csrs)) {
	l := registers()
	for range 60 {
		c := csr.Reset()
		for range 40 {
			c = csr.Write(c, l[seed.below(uint64(len(l)))], seed.number())
			check(&seed, c)
			if t.Failed() {
				return
			}
		}
	}
}

// P12.5: what is read and written again leaves all as it is; but a line that mip reads in bit 9 stays there, and Fcsr's registers let FS be 3.
func TestReadAndWrittenAgain(t *testing.T) {
	l := registers()
	many(t, 1209, func(d *dice, c api.Csrs) {
		lines := d.number()
		for _, n := range l {
			want := c
			switch {
			case n <= 3:
				float(&want)
			case n == 0x344:
				put(&want.Mip, c.Mip|lines, 9)
			}
			told{t}.write(c, n, csr.Read(c, n, lines, d.next()), want)
		}
	})
}

// P12.5: what is written twice is as what is written once.
func TestWrittenTwice(t *testing.T) {
	l := registers()
	many(t, 1210, func(d *dice, c api.Csrs) {
		for _, n := range l {
			v := d.number()
			once := csr.Write(c, n, v)
			told{t}.write(once, n, v, once)
		}
	})
}

// named are the fields that the table names for a write, by their places in those of one number each; -1: the settings, -2: the addresses.
func named(n int) []int {
	switch {
	case n >= 1 && n <= 3:
		return []int{0, 21}
	case n >= 0x3b0 && n <= 0x3b7:
		return []int{-2}
	}
	return map[int][]int{
		0x100: {0}, 0x104: {4}, 0x105: {14}, 0x106: {19}, 0x140: {18}, 0x141: {15}, 0x142: {16}, 0x143: {17}, 0x144: {5}, 0x180: {20},
		0x300: {0}, 0x302: {2}, 0x303: {3}, 0x304: {4}, 0x305: {1}, 0x306: {10}, 0x320: {11},
		0x340: {9}, 0x341: {6}, 0x342: {7}, 0x343: {8}, 0x344: {5}, 0x3a0: {-1}, 0xb00: {12}, 0xb02: {13},
	}[n]
}

// P12.5: a write leaves all fields as they are but those that the table names, of hand-made registers too.
func TestOtherFieldsStay(t *testing.T) {
	d := dice(1211)
	l := append(registers(), 0, 0x101, 0x244, 0x7c0, 0xb01, -1, 0x1300)
	for i := range 200 {
		c := d.written(i)
		if i%2 == 0 {
			c = d.handMade()
		}
		for _, n := range l {
			o := csr.Write(c, n, d.number())
			from := fields(&c)
			for _, f := range named(n) {
				switch f {
				case -1:
					o.Pmpcfg = c.Pmpcfg
				case -2:
					o.Pmpaddr[n-0x3b0] = c.Pmpaddr[n-0x3b0]
				default:
					*fields(&o)[f] = *from[f]
				}
			}
			if o != c {
				t.Fatalf("%#x turned another field", n)
			}
		}
	}
}

// P12.5: what writes leave of each register is no more than the table lets be there.
func TestWhatWritesLeave(t *testing.T) {
	seen := api.Csrs{}
	many(t, 1212, func(_ *dice, c api.Csrs) {
		status := c.Mstatus
		if status&0xa00000000 != 0xa00000000 || status&^0x8000000a007e79aa != 0 || bit(status, 63) != (status>>13&3 == 3) || status>>11&3 == 2 {
			t.Errorf("Mstatus %#x", status)
		}
		if c.Medeleg&^0xb3fe|c.Mideleg&^0x222|c.Mie&^0xaaa|c.Mip&^0x222|c.Fcsr&^0xff != 0 {
			t.Errorf("Medeleg %#x, Mideleg %#x, Mie %#x, Mip %#x, Fcsr %#x", c.Medeleg, c.Mideleg, c.Mie, c.Mip, c.Fcsr)
		}
		if c.Mtvec&2|c.Stvec&2|c.Mepc&1|c.Sepc&1|c.Mcounteren&^7|c.Scounteren&^7|c.Mcountinhibit&^5|c.Satp<<1>>61 != 0 {
			t.Errorf("%#x", c)
		}
		for n, setting := range c.Pmpcfg {
			if setting&0x60 != 0 || setting&3 == 2 || c.Pmpaddr[n]>>54 != 0 {
				t.Errorf("the entry %d: %#x, %#x", n, setting, c.Pmpaddr[n])
			}
		}
		for i, f := range fields(&seen) {
			*f |= *fields(&c)[i]
		}
	})
	for i, f := range fields(&seen) {
		if *f == 0 {
			t.Errorf("nothing ever came into the field %d", i)
		}
	}
}

// P12.5, R4: many writes, one behind the other, are as the second reading has them, and what was there ahead is as it was.
func TestManyWritesInARow(t *testing.T) {
	d := dice(1213)
	c := csr.Reset()
	l := append(registers(), 0x102, 0x7c0, -1)
	for i := range 50000 {
		n, v, lines, time := l[d.below(uint64(len(l)))], d.number(), d.number(), d.number()
		ahead := c
		want := leaves(c, n, v)
		told{t}.write(c, n, v, want)
		told{t}.write(ahead, n, v, want)
		told{t}.read(want, n, lines, time, reads(want, n, lines, time))
		c = want
		if i%500 == 0 { // locks would keep the entries as they are for good
			c = csr.Reset()
		}
		if t.Failed() {
			return
		}
	}
}
