package hart

import (
	"tandem/alu"
	"tandem/api"
)

// do does what the instruction does, by its kind.
func (s *step) do() {
	at, imm := s.record.PC, uint64(s.inst.Imm)
	switch s.inst.Kind {
	case api.Illegal:
		s.refuse()
	case api.Lui:
		s.set(imm)
	case api.Auipc:
		s.set(at + imm)
	case api.Jal:
		s.jump(at + imm)
	case api.Jalr:
		s.jump((s.first() + imm) &^ 1)
	case api.Load:
		s.load()
	case api.Store:
		s.store(s.second())
	case api.Lr:
		s.reserve()
	case api.Sc:
		s.storeReserved()
	case api.Ecall:
		giveUp(call(s.now.Mode), 0)
	case api.Ebreak:
		giveUp(api.Breakpoint, at)
	case api.Csrrw, api.Csrrs, api.Csrrc:
		s.turnRegister()
	case api.Mret, api.Sret:
		s.comeBack()
	case api.Wfi:
		s.needs(fieldTW)
	case api.SfenceVma:
		s.needs(fieldTVM)
	default:
		s.doOther()
	}
}

// doOther does those that a layer below knows by their kinds. What is left over does nothing: fences, as memory is one.
func (s *step) doOther() {
	i := &s.inst
	switch {
	case i.Kind >= api.FLoad:
		s.doFloats()
	case i.Kind >= api.AmoSwap:
		s.swap()
	case i.Kind >= api.Add && i.Kind <= api.Remu:
		v, _ := alu.Do(i.Kind, i.Word, s.first(), s.operand())
		s.set(v)
	case i.Kind >= api.Beq && i.Kind <= api.Bgeu:
		if taken, _ := alu.Branch(i.Kind, s.first(), s.second()); taken {
			s.record.Next = s.record.PC + uint64(i.Imm)
		}
	}
}

// first is the number of Rs1.
func (s *step) first() uint64 {
	return s.now.X[s.inst.Rs1]
}

// second is the number of Rs2.
func (s *step) second() uint64 {
	return s.now.X[s.inst.Rs2]
}

// operand is the immediate, if the instruction has one instead of Rs2.
func (s *step) operand() uint64 {
	if s.inst.UseImm {
		return uint64(s.inst.Imm)
	}
	return s.second()
}

// set sets Rd.
func (s *step) set(v uint64) {
	rd := s.inst.Rd
	if rd == 0 {
		return
	}
	s.now.X[rd] = v
	s.record.Reg, s.record.Rd, s.record.Value = api.RegX, rd, v
}

// setSigned sets Rd to a number of a size, widened with its sign.
func (s *step) setSigned(v uint64, size int) {
	v, _ = alu.Extend(v, size, false)
	s.set(v)
}

// jump sets Rd to where the instruction would have led, and leads elsewhere.
func (s *step) jump(to uint64) {
	s.set(s.record.Next)
	s.record.Next = to
}
