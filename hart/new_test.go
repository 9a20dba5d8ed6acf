package hart_test

import (
	"math"
	"testing"

	"tandem/api"
	"tandem/hart"
)

// began holds what a new hart holds, ahead of the first cycle.
func began(t *testing.T, s api.Setup, want api.State) *hart.Hart {
	t.Helper()
	h := hart.New(s)
	if h == nil {
		t.Fatal("there is no hart")
	}
	if l := apart(h.State(), want); l != nil {
		t.Errorf("it holds otherwise: %v", l)
	}
	if h.Waits() {
		t.Error("it waits")
	}
	return h
}

// atFirst is what one holds of which nothing is laid.
func atFirst() api.State {
	return api.State{Mode: api.Machine, C: api.Csrs{Mstatus: 0xa00000000}}
}

// P16.1: nil where there is no bus.
func TestNoHart(t *testing.T) {
	for what, s := range map[string]api.Setup{
		"an image too long":       {Image: make([]byte, api.RamSize+1)},
		"an input of no kind":     {Events: []api.Event{{Kind: 3}}},
		"a line that isn't there": {Events: []api.Event{{Kind: api.EventLine, N: 9}}},
		"a byte too great":        {Events: []api.Event{{Kind: api.EventByte, V: 256}}},
		"inputs out of order":     {Events: []api.Event{{Cycle: 3, Kind: api.EventByte}, {Cycle: 2, Kind: api.EventByte}}},
		"an input ahead of all":   {Events: []api.Event{{Cycle: -1, Kind: api.EventByte}}},
		"inputs too many":         {Events: make([]api.Event, api.MaxEvents+1)},
	} {
		if len(s.Events) > api.MaxEvents {
			for i := range s.Events {
				s.Events[i].Kind = api.EventByte
			}
		}
		if hart.New(s) != nil {
			t.Errorf("%s: there is a hart", what)
		}
		if len(s.Events) > api.MaxEvents {
			s.Events = s.Events[:api.MaxEvents]
			began(t, s, atFirst())
		}
	}
	began(t, api.Setup{Image: make([]byte, api.RamSize)}, atFirst())
}

// P16.1: it is in M, at PC with bit 0 cleared, and all else is 0.
func TestAtFirst(t *testing.T) {
	for _, pc := range []uint64{0, 1, 2, 3, 0x80000000, 0x80000001, 0x80000002, 1<<64 - 1, 1<<64 - 2, 1 << 63} {
		want := atFirst()
		want.PC = pc &^ 1
		began(t, api.Setup{PC: pc}, want)
		began(t, api.Setup{PC: pc, Seeds: [3]uint64{1, 2, 1<<64 - 1}}, want)
	}
}

// P16.1: registers are laid one by one, as a write leaves them.
func TestLays(t *testing.T) {
	for _, c := range []struct {
		what string
		l    []api.Lay
		turn func(c *api.Csrs)
	}{
		{"none", nil, func(*api.Csrs) {}},
		{"plain ones", []api.Lay{{Csr: 0x340, Value: 7}, {Csr: 0x305, Value: 0xff}, {Csr: 0x141, Value: 0xff}}, func(c *api.Csrs) { c.Mscratch, c.Mtvec, c.Sepc = 7, 0xfd, 0xfe }},
		{"the last one counts", []api.Lay{{Csr: 0x340, Value: 7}, {Csr: 0x340, Value: 8}}, func(c *api.Csrs) { c.Mscratch = 8 }},
		{"Mstatus", []api.Lay{{Csr: 0x300, Value: 1<<64 - 1}}, func(c *api.Csrs) { c.Mstatus = 0x8000000a007e79aa }},
		{"MPP stays", []api.Lay{{Csr: 0x300, Value: 0x1800}, {Csr: 0x300, Value: 0x1000}}, func(c *api.Csrs) { c.Mstatus |= 0x1800 }},
		{"Fcsr without FS", []api.Lay{{Csr: 3, Value: 7}}, func(*api.Csrs) {}},
		{"Fcsr ahead of FS", []api.Lay{{Csr: 3, Value: 7}, {Csr: 0x300, Value: 1 << 13}}, func(c *api.Csrs) { c.Mstatus |= 1 << 13 }},
		{"Fcsr behind FS", []api.Lay{{Csr: 0x300, Value: 1 << 13}, {Csr: 3, Value: 7}}, func(c *api.Csrs) { c.Mstatus, c.Fcsr = c.Mstatus|fs|sd, 7 }},
		{"those that may only be read", []api.Lay{{Csr: 0xf14, Value: 7}, {Csr: 0xc00, Value: 7}, {Csr: 0xc02, Value: 7}}, func(*api.Csrs) {}},
		{"counters", []api.Lay{{Csr: 0xb00, Value: 7}, {Csr: 0xb02, Value: 9}, {Csr: 0x320, Value: 7}}, func(c *api.Csrs) { c.Mcycle, c.Minstret, c.Mcountinhibit = 7, 9, 5 }},
		{"satp with TVM", []api.Lay{{Csr: 0x300, Value: tvm}, {Csr: 0x180, Value: 8<<60 | 5}}, func(c *api.Csrs) { c.Mstatus, c.Satp = c.Mstatus|tvm, 8<<60|5 }},
		{"satp of no scheme", []api.Lay{{Csr: 0x180, Value: 9 << 60}}, func(*api.Csrs) {}},
		{"sie by mideleg", []api.Lay{{Csr: 0x104, Value: 0x222}, {Csr: 0x303, Value: 0x20}, {Csr: 0x104, Value: 0x222}}, func(c *api.Csrs) { c.Mideleg, c.Mie = 0x20, 0x20 }},
		{"mip", []api.Lay{{Csr: 0x344, Value: 1<<64 - 1}}, func(c *api.Csrs) { c.Mip = 0x222 }},
		{"pmp, locked", []api.Lay{{Csr: 0x3b0, Value: 5}, {Csr: 0x3a0, Value: 0x98}, {Csr: 0x3b0, Value: 6}, {Csr: 0x3a0, Value: 0x1f1f}}, func(c *api.Csrs) { c.Pmpaddr[0], c.Pmpcfg[0], c.Pmpcfg[1] = 5, 0x98, 0x1f }},
		{"numbers that there aren't", []api.Lay{{Csr: -1, Value: 7}, {Csr: 0x340 + 0x1000, Value: 7}, {Csr: 0x340 - 0x1000, Value: 7}, {Csr: math.MinInt, Value: 7}, {Csr: math.MaxInt, Value: 7}, {Csr: 0x7c0, Value: 7}, {Csr: 0x200, Value: 7}, {Csr: 1<<32 + 0x340, Value: 7}}, func(*api.Csrs) {}},
	} {
		want := atFirst()
		c.turn(&want.C)
		if h := hart.New(api.Setup{Csrs: c.l}); h == nil || apart(h.State(), want) != nil {
			t.Errorf("%s: %v", c.what, apart(h.State(), want))
		}
	}
}

// P16.1: of more than MaxWrites the first ones alone, whether they may be written or not.
func TestLaysTheFirstOnes(t *testing.T) {
	for _, filler := range []api.Lay{{Csr: 0x341, Value: 8}, {Csr: 0xf14, Value: 8}} {
		for _, ahead := range []int{0, 1, 62, 63, 64, 65, 200} {
			var l []api.Lay
			for range ahead {
				l = append(l, filler)
			}
			l = append(l, api.Lay{Csr: 0x340, Value: 5}, api.Lay{Csr: 0x343, Value: 6})
			want := atFirst()
			if filler.Csr == 0x341 && ahead > 0 {
				want.C.Mepc = 8
			}
			if ahead < 64 {
				want.C.Mscratch = 5
			}
			if ahead < 63 {
				want.C.Mtval = 6
			}
			began(t, api.Setup{Csrs: l}, want)
		}
	}
}

// R3: a setup is neither changed nor kept.
func TestKeepsNoSetup(t *testing.T) {
	made := func() api.Setup {
		lays := append(make([]api.Lay, 0, 8), api.Lay{Csr: 0x340, Value: 5})
		events := append(make([]api.Event, 0, 8), api.Event{Cycle: 2, Kind: api.EventLine, N: 3, V: 1})
		image := append(make([]byte, 0, 64), row(0x00500513, 0x00600593)...)
		return api.Setup{Image: image, PC: base, Csrs: lays, Events: events}
	}
	s := made()
	h, o := hart.New(s), hart.New(made())
	for i := range s.Image[:cap(s.Image)] {
		s.Image[:cap(s.Image)][i] = 0xff
	}
	s.Csrs[0].Value, s.Events[0].V, s.Events[0].Cycle = 6, 0, 1
	for cycle := range int64(5) {
		h.Tick(cycle)
		o.Tick(cycle)
		if a, b := h.Step(), o.Step(); a != b {
			t.Errorf("%+v, not %+v", a, b)
		}
		if a, b := h.State(), o.State(); a != b {
			t.Errorf("%+v, not %+v", a, b)
		}
	}
	s = made()
	hart.New(s).Step()
	w := made()
	if s.Csrs[0] != w.Csrs[0] || s.Events[0] != w.Events[0] || string(s.Image) != string(w.Image) || s.Csrs[:2][1] != (api.Lay{}) || s.Events[:2][1] != (api.Event{}) || s.Image[:9][8] != 0 {
		t.Error("the setup was changed")
	}
}
