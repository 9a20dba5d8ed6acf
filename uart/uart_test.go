package uart_test

import (
	"math"
	"strings"
	"testing"

	"tandem/uart"
)

const alphabet = "abcdefghijklmnopqrstuvwxyz"

// P9.1: New.
func TestNew(t *testing.T) {
	holds(t, "New", uart.New(), new(log))
	x := told{t, uart.New()}
	for at, want := range []uint64{0, 0, 1, 0, 0, 0x60, 0, 0} {
		x.read(uint64(at), want)
	}
	x.up(false)
	x.sent("")
}

// P9.1: each new one is one of its own.
func TestNewOnesAreApart(t *testing.T) {
	u, o := uart.New(), uart.New()
	for at := range uint64(8) {
		u.Write(at, 1, 'w')
	}
	for range 20 {
		u.Give('g')
	}
	holds(t, "another one", o, new(log))
	holds(t, "one made later", uart.New(), new(log))
}

// P9.1: what comes in stands behind what is there, up to 16 bytes; what is beyond is lost.
func TestGive(t *testing.T) {
	for n := range 26 {
		u, l := filled(alphabet[:n], "")
		holds(t, "Give", u, l)
		x := told{t, u}
		lost := uint64(0)
		if n > 16 {
			lost = 2
		}
		for i := range min(n, 16) {
			x.read(5, 0x61+lost)
			x.read(0, uint64(alphabet[i]))
			lost = 0
		}
		x.read(5, 0x60)
		x.read(0, 0)
		x.read(5, 0x60)
	}
}

// P9.1: a place that was left is there anew, however many bytes came by.
func TestGiveGoesOn(t *testing.T) {
	for waits := 1; waits <= 16; waits++ {
		u := uart.New()
		for i := range 1000 {
			u.Give(byte(i))
			if i < waits-1 {
				continue
			}
			if v, _ := u.Read(0, 1); byte(v) != byte(i-waits+1) {
				t.Fatalf("the byte %d of %d: %#x", i, waits, v)
			}
		}
		for range waits - 1 {
			told{t, u}.read(5, 0x61)
			u.Read(0, 1)
		}
		told{t, u}.read(5, 0x60)
	}
}

// P9.1, P9.2: which byte is lost, and that one place that was left takes one byte.
func TestTheByteThatIsLost(t *testing.T) {
	x := told{t, uart.New()}
	for _, b := range []byte(alphabet[:16]) {
		x.u.Give(b)
	}
	x.read(5, 0x61)
	x.u.Give('1')
	x.u.Give('2')
	x.read(0, 'a')
	x.u.Give('3')
	x.u.Give('4')
	for _, b := range []byte(alphabet[1:16] + "3") {
		x.read(0, uint64(b))
	}
	x.read(0, 0)
	x.read(5, 0x62)
	x.read(5, 0x60)
}

// P9.2: that a byte was lost is told until the state is read, and by nothing else forgotten.
func TestLostIsTold(t *testing.T) {
	for _, between := range []func(u *uart.Uart){
		func(u *uart.Uart) {},
		func(u *uart.Uart) { u.Write(5, 1, 0) },
		func(u *uart.Uart) { u.Write(5, 1, math.MaxUint64) },
		func(u *uart.Uart) { u.Read(5, 4) },
		func(u *uart.Uart) { u.Read(5, 0) },
		func(u *uart.Uart) { u.Read(13, 1) },
		func(u *uart.Uart) { u.Read(5+1<<32, 1) },
		func(u *uart.Uart) { u.Copy().Read(5, 1) },
		func(u *uart.Uart) { u.Write(1, 1, 1); u.Read(2, 1); u.Up() },
		func(u *uart.Uart) { u.Read(0, 1); u.Give('y') },
	} {
		u, _ := filled(strings.Repeat("x", 17), "")
		between(u)
		x := told{t, u}
		x.read(5, 0x63)
		x.read(5, 0x61)
		u.Give('z')
		x.read(5, 0x63)
		x.read(5, 0x61)
	}
}

// P9.2: wherever there is no register, in any size, nothing is changed.
func TestNoRegister(t *testing.T) {
	u, l := filled(alphabet, "out")
	x := told{t, u}
	for at := range uint64(0x200) {
		for _, size := range sizes() {
			if at > 7 || size != 1 {
				x.none(at, size)
			}
		}
	}
	for at := range uint64(8) {
		for bit := 3; bit < 64; bit++ {
			for _, far := range []uint64{at + 1<<bit, at - 1<<bit, ^at, at + 0x10000000} {
				for _, size := range sizes() {
					x.none(far, size)
				}
			}
		}
	}
	holds(t, "refused", u, l)
	drained(t, "refused", u, l)
}

// P9.2: of what is written the lowest byte counts alone, of the setting the lowest bit; all else stays.
func TestWriteTouchesItsOwnAlone(t *testing.T) {
	d := dice(91)
	for at := range uint64(8) {
		for low := range uint64(256) {
			for _, v := range []uint64{low, low | 0xffffffffffffff00, low | d.next()<<8} {
				u, l := filled("in", "out")
				u.Write(7, 1, 0x5a)
				l.write(7, 1, 0x5a)
				if !u.Write(at, 1, v) {
					t.Fatalf("Write(%d, 1, %#x): false", at, v)
				}
				l.write(at, 1, v)
				holds(t, "Write", u, l)
			}
		}
	}
}

// P9.2: the setting is one bit, and the last one that was written.
func TestTheSettingIsOneBit(t *testing.T) {
	x := told{t, uart.New()}
	x.u.Give('g')
	for bit := range 64 {
		want := uint64(0)
		if bit == 0 {
			want = 1
		}
		for _, v := range []uint64{1 << bit, math.MaxUint64 &^ (1 << bit)} {
			x.write(1, v)
			x.read(1, want)
			x.up(want == 1)
			want = 1 - want
		}
	}
}

// P9.2: what was written last stands in the register 7, alone there.
func TestScratch(t *testing.T) {
	x := told{t, uart.New()}
	for v := range uint64(600) {
		x.write(7, v)
		x.write(0, ^v)
		x.write(1, ^v)
		x.read(7, v%256)
	}
}

// P9.2, P9.3: the line by the setting and the queue, and what the register 2 tells of it.
func TestUp(t *testing.T) {
	for wanted := range uint64(2) {
		for n := range 20 {
			u, _ := filled(alphabet[:n], "o")
			x := told{t, u}
			x.write(1, wanted)
			for left := min(n, 16); left >= 0; left-- {
				x.up(wanted == 1 && left > 0)
				if wanted == 1 && left > 0 {
					x.read(2, 4)
				} else {
					x.read(2, 1)
				}
				x.u.Read(0, 1)
			}
		}
	}
}

// P9.3: the line falls and rises with the setting, and with what comes.
func TestUpGoesOn(t *testing.T) {
	x := told{t, uart.New()}
	x.write(1, 1)
	x.up(false)
	x.u.Give(0)
	x.up(true)
	x.write(1, 2)
	x.up(false)
	x.write(1, 1)
	x.up(true)
	x.write(2, 0)
	x.write(5, 0)
	x.up(true)
	x.read(5, 0x61)
	x.up(true)
	x.read(0, 0)
	x.up(false)
	x.u.Give(0)
	x.up(true)
}

// P9.3: all that went out, in order, each byte as many times as it was written.
func TestSent(t *testing.T) {
	var want strings.Builder
	u := uart.New()
	d := dice(92)
	for i := range 5000 {
		v := uint64(i)
		if i > 255 {
			v = d.next()
		}
		u.Write(0, 1, v)
		want.WriteByte(byte(v))
		if i%97 == 0 {
			told{t, u}.sent(want.String())
		}
	}
	told{t, u}.sent(want.String())
	told{t, u}.sent(want.String())
}

// P9.3, R3: what Sent tells is new memory, the room behind it too.
func TestSentIsNewMemory(t *testing.T) {
	for n := range 40 {
		out := strings.Repeat("o", n)
		u, l := filled("in", out)
		a, b := u.Sent(), u.Sent()
		spoil(a)
		told{t, u}.sent(out)
		if string(b) != out {
			t.Fatalf("another answer: %q", b)
		}
		u.Write(0, 1, 'p')
		l.write(0, 1, 'p')
		spoil(a)
		spoil(b)
		holds(t, "answers written", u, l)
		u.Write(0, 1, 'q')
		if v := u.Sent(); string(v) != out+"pq" || string(b) == string(v) {
			t.Fatalf("%q", v)
		}
	}
}

// spoil writes over a list and the room behind it.
func spoil(l []byte) {
	l = l[:cap(l)]
	for i := range l {
		l[i] = '#'
	}
}

// P9.4: a copy is alike, goes on alike, and goes its own way; so does what it was made of. Whatever has come, was read, and went out.
func TestCopy(t *testing.T) {
	for in := range 18 {
		for cut := range in + 1 {
			for _, out := range []string{"", "o", alphabet[:8], alphabet[:9]} {
				u, l := filled(alphabet[:in], out)
				for range cut {
					alike(t, "cut", u, l, 0, 1)
				}
				goOn(t, u, l)
			}
		}
	}
}

// goOn lets one and two copies of it go ways of their own, turn by turn.
func goOn(t *testing.T, u *uart.Uart, l *log) {
	t.Helper()
	us := []*uart.Uart{u, u.Copy(), u.Copy()}
	ls := []*log{l, l.copied(), l.copied()}
	us, ls = append(us, us[1].Copy()), append(ls, ls[1].copied())
	for turn := range byte(3) {
		for i := range us {
			b := byte(i)*16 + turn
			us[i].Give(b)
			ls[i].give(b)
			us[i].Write(0, 1, uint64(b))
			ls[i].write(0, 1, uint64(b))
			us[i].Write(7, 1, uint64(b))
			ls[i].write(7, 1, uint64(b))
			us[i].Write(1, 1, uint64(i))
			ls[i].write(1, 1, uint64(i))
			for k := range us {
				holds(t, "copies", us[k], ls[k])
			}
		}
	}
	for i := range us {
		drained(t, "copies drained", us[i], ls[i])
	}
}

// P9.4: what was lost is copied, and told by each for itself.
func TestCopyOfWhatWasLost(t *testing.T) {
	u, _ := filled(alphabet, "")
	o := u.Copy()
	told{t, u}.read(5, 0x63)
	told{t, u}.read(5, 0x61)
	p := u.Copy()
	told{t, o}.read(5, 0x63)
	told{t, o}.read(5, 0x61)
	o.Give('x')
	told{t, p}.read(5, 0x61)
	told{t, u}.read(5, 0x61)
	told{t, o}.read(5, 0x63)
}

// P9.5: each byte that wasn't lost is read once, in order, however giving and reading take turns.
func TestReadInOrder(t *testing.T) {
	d := dice(93)
	for round := range uint64(40) {
		u := uart.New()
		var kept, got []byte
		for range 3000 {
			if d.below(40) < round {
				b := byte(d.next())
				if len(kept)-len(got) < 16 {
					kept = append(kept, b)
				}
				u.Give(b)
				continue
			}
			v, _ := u.Read(0, 1)
			if len(got) < len(kept) {
				got = append(got, byte(v))
			} else if v != 0 {
				t.Fatalf("of an empty one: %#x", v)
			}
		}
		if string(got) != string(kept[:len(got)]) {
			t.Fatalf("round %d: not in order", round)
		}
	}
}

// P9.5: what goes out leaves the queue alone, and what comes in leaves what went out alone.
func TestInAndOutAreApart(t *testing.T) {
	x := told{t, uart.New()}
	for i := range 16 {
		x.u.Give(alphabet[i])
		x.write(0, uint64(alphabet[25-i]))
	}
	x.read(5, 0x61)
	for range 100 {
		x.write(0, '!')
	}
	x.read(5, 0x61)
	for i := range 16 {
		x.read(0, uint64(alphabet[i]))
	}
	x.read(0, 0)
	x.sent("zyxwvutsrqponmlk" + strings.Repeat("!", 100))
	x.u.Give('?')
	x.sent("zyxwvutsrqponmlk" + strings.Repeat("!", 100))
}

// P9.1 to P9.5: many calls of all kinds on several of them, each beside a log.
func TestManyBesideLogs(t *testing.T) {
	d := dice(94)
	us := []*uart.Uart{uart.New(), uart.New(), uart.New()}
	ls := []*log{new(log), new(log), new(log)}
	for step := range 20000 {
		i := d.below(3)
		at, size := d.below(8), 1
		switch d.below(10) {
		case 0:
			size = sizes()[d.below(uint64(len(sizes())))]
		case 1:
			at = d.next() >> d.below(64)
		case 2, 3:
			at = 0
		}
		switch k := d.below(100); {
		case k < 2:
			o := d.below(3)
			us[o], ls[o] = us[i].Copy(), ls[i].copied()
		case k < 3:
			us[i], ls[i] = uart.New(), new(log)
		case k < 40:
			b := byte(d.next())
			us[i].Give(b)
			ls[i].give(b)
		case k < 60:
			v := d.next()
			if us[i].Write(at, size, v) != ls[i].write(at, size, v) {
				t.Fatalf("%d: Write(%#x, %d)", step, at, size)
			}
		default:
			alike(t, "many", us[i], ls[i], at, size)
		}
		holds(t, "many", us[i], ls[i])
	}
}

// R4: what is asked changes nothing, but for what the registers 0 and 5 say.
func TestAskingChangesNothing(t *testing.T) {
	u, l := filled(alphabet, "out")
	for range 3 {
		for _, at := range []uint64{1, 2, 3, 4, 6, 7} {
			u.Read(at, 1)
		}
		u.Up()
		u.Sent()
		o := u.Copy()
		o.Give('x')
		o.Read(0, 1)
		o.Read(5, 1)
		holds(t, "the one asked", u, l)
	}
	drained(t, "the one asked", u, l)
}
