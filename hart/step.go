package hart

import (
	"tandem/api"
	"tandem/bus"
	"tandem/decode"
	"tandem/squeeze"
	"tandem/trap"
	"tandem/walk"
)

// A step is one that is under way. It turns a copy of what the hart holds, and nothing else ahead of all that may trap, so that one that is given up has changed nothing.
type step struct {
	bus    *bus.Bus
	now    api.State
	inst   api.Inst
	record api.Record // its Next is where the step leads
}

// A fault is what a step panics with to give itself up: its trap.
type fault struct {
	cause, tval uint64
}

func giveUp(cause, tval uint64) {
	panic(fault{cause, tval})
}

// begin is a step from where the hart is.
func (h *Hart) begin() *step {
	r := api.Record{Kind: api.Done, Cycle: h.bus.Cycle(), PC: h.now.PC, Mode: h.now.Mode}
	return &step{bus: h.bus, now: h.now, record: r}
}

// end lets the hart hold what a step that was done has left, and tells its record.
func (h *Hart) end(s *step) api.Record {
	// What the step itself has written to Mcountinhibit counts from the next one on.
	if h.now.C.Mcountinhibit&instretStays == 0 && s.record.Csr != minstret+1 {
		s.now.C.Minstret++
	}
	s.now.PC = s.record.Next
	if s.record.Csr != 0 {
		s.record.CsrValue = s.register(s.record.Csr-1, s.bus.Pending())
	}
	h.now = s.now
	h.paused = s.inst.Kind == api.Wfi
	return s.record
}

// enter takes a trap or an interrupt, of which a record tells the cause, and tells the rest of it.
func (h *Hart) enter(r api.Record) api.Record {
	r.Cycle, r.PC, r.Mode = h.bus.Cycle(), h.now.PC, h.now.Mode
	h.now.C, h.now.Mode, h.now.PC = trap.Enter(h.now.C, h.now.Mode, h.now.PC, r.Cause, r.Tval)
	r.Next = h.now.PC
	h.paused = false
	return r
}

// fetch finds out which instruction it is. The record has no bits as long as some of them may still not be fetched.
func (s *step) fetch() {
	at := s.record.PC
	low := s.half(at)
	if squeeze.Short(low) {
		s.record.Bits, s.record.Next = uint32(low), at+2
		if bits, ok := squeeze.Expand(low); ok {
			s.inst = decode.Decode(bits)
		}
		return
	}
	bits := uint32(s.half(at+2))<<16 | uint32(low)
	s.record.Bits, s.record.Next = bits, at+4
	s.inst = decode.Decode(bits)
}

// half fetches two bytes.
func (s *step) half(at uint64) uint16 {
	v, _ := s.bus.Read(api.Fetch, s.reach(api.Fetch, at, 2), 2)
	return uint16(v)
}

// reach is the physical address at which an access is made.
func (s *step) reach(kind int, at uint64, size int) uint64 {
	place, cause := walk.Reach(s.bus, &s.now.C, s.now.Mode, kind, at, size)
	if cause != 0 {
		giveUp(cause, at)
	}
	return place
}

// refuse gives up an instruction that is none, or none here.
func (s *step) refuse() {
	giveUp(api.IllegalInst, uint64(s.record.Bits))
}
