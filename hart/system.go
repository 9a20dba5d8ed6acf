package hart

import (
	"tandem/api"
	"tandem/csr"
	"tandem/trap"
)

// The numbers of registers that are told apart.
const (
	fflags   = 0x001
	sip      = 0x144
	mip      = 0x344
	minstret = 0xb02
)

// The fields of Mstatus that are asked.
const (
	fieldFS  = 3 << 13
	fieldTVM = 1 << 20
	fieldTW  = 1 << 21
	fieldTSR = 1 << 22
)

// The bits of Mcountinhibit by which a counter stays as it is.
const (
	cycleStays   = 1 << 0
	instretStays = 1 << 2
)

// laid is what the registers hold behind those that a setup lays.
func laid(l []api.Lay) api.Csrs {
	c := csr.Reset()
	for _, w := range l[:min(len(l), api.MaxWrites)] {
		if csr.May(c, api.Machine, w.Csr, true) {
			c = csr.Write(c, w.Csr, w.Value)
		}
	}
	return c
}

// register is what a register reads, with the devices' lines.
func (s *step) register(n int, lines uint64) uint64 {
	return csr.Read(s.now.C, n, lines, s.bus.Time())
}

// turnRegister does what reads and writes a register.
func (s *step) turnRegister() {
	i := &s.inst
	writes := i.Kind == api.Csrrw || i.Rs1 != 0 || i.Imm != 0
	if !csr.May(s.now.C, s.now.Mode, i.Csr, writes) {
		s.refuse()
	}
	v := s.first()
	if i.UseImm {
		v = uint64(i.Imm)
	}
	read := s.register(i.Csr, s.bus.Pending())
	if writes {
		s.now.C = csr.Write(s.now.C, i.Csr, s.turned(read, v))
		s.record.Csr = i.Csr + 1
	}
	s.set(read)
}

// turned is what is written to a register that reads so.
func (s *step) turned(read, v uint64) uint64 {
	if s.inst.Csr == sip || s.inst.Csr == mip { // what devices hold up would be held up by the register, too
		read = s.register(s.inst.Csr, 0)
	}
	switch s.inst.Kind {
	case api.Csrrs:
		return read | v
	case api.Csrrc:
		return read &^ v
	}
	return v
}

// call is the cause of a mode's ecall.
func call(mode int) uint64 {
	switch mode {
	case api.Machine:
		return api.CallMachine
	case api.Supervisor:
		return api.CallSupervisor
	}
	return api.CallUser
}

// needs refuses what is M's, and S's, unless a field keeps it from S.
func (s *step) needs(field uint64) {
	switch s.now.Mode {
	case api.Machine:
		return
	case api.Supervisor:
		if s.now.C.Mstatus&field == 0 {
			return
		}
	}
	s.refuse()
}

// comeBack does mret and sret.
func (s *step) comeBack() {
	if s.inst.Kind == api.Mret && s.now.Mode != api.Machine {
		s.refuse()
	}
	s.needs(fieldTSR)
	s.now.C, s.now.Mode, s.record.Next = trap.Return(s.now.C, s.inst.Kind)
}
