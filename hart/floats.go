package hart

import (
	"tandem/api"
	"tandem/conv"
	"tandem/csr"
	"tandem/soft"
)

// The modes of rounding: where Fcsr has its own, and what tells that this one is to be taken.
const (
	roundingAt   = 5
	roundingBits = 7
	lastRounding = 4
	byRegister   = 7
)

// doFloats does all that has to do with floats.
func (s *step) doFloats() {
	if s.now.C.Mstatus&fieldFS == 0 {
		s.refuse()
	}
	i := &s.inst
	rm := s.rounding()
	a, b := s.float(i.Rs1, i.Size), s.float(i.Rs2, i.Size)
	switch i.Kind {
	case api.FLoad:
		s.setFloat(s.read(api.Read, s.data(api.Read, s.beside())), 0)
	case api.FStore:
		s.store(s.now.F[i.Rs2])
	case api.FSgnj, api.FSgnjn, api.FSgnjx:
		s.setFloat(conv.Sign(i.Kind, i.Size, a, b), 0)
	case api.FMin, api.FMax:
		s.setFloat(conv.Pick(i.Kind, i.Size, a, b))
	case api.FEq, api.FLt, api.FLe:
		s.setWhole(conv.Compare(i.Kind, i.Size, a, b))
	case api.FClass:
		s.set(conv.Class(i.Size, a))
	case api.FToInt:
		s.setWhole(conv.ToInt(i.Size, rm, i.Word, i.Unsigned, a))
	case api.FFromInt:
		s.setFloat(conv.FromInt(i.Size, rm, i.Word, i.Unsigned, s.first()))
	case api.FConvert:
		s.setFloat(conv.Convert(i.Size, rm, s.float(i.Rs1, 12-i.Size))) // the sizes are 4 and 8
	case api.FMoveX:
		s.setSigned(s.now.F[i.Rs1], i.Size)
	case api.FMoveF:
		s.setFloat(s.first(), 0)
	default:
		s.setFloat(s.rounded(rm, a, b))
	}
}

// rounded is what a sum, a product, a quotient, a root or a sum of a product comes to.
func (s *step) rounded(rm int, a, b uint64) (uint64, int) {
	i := &s.inst
	switch i.Kind {
	case api.FAdd:
		return soft.Add(i.Size, rm, a, b)
	case api.FSub:
		return soft.Sub(i.Size, rm, a, b)
	case api.FMul:
		return soft.Mul(i.Size, rm, a, b)
	case api.FDiv:
		return soft.Div(i.Size, rm, a, b)
	case api.FSqrt:
		return soft.Sqrt(i.Size, rm, a)
	}
	c := s.float(i.Rs3, i.Size)
	if i.Kind == api.FNmsub || i.Kind == api.FNmadd {
		a = conv.Sign(api.FSgnjn, i.Size, a, a)
	}
	if i.Kind == api.FMsub || i.Kind == api.FNmadd {
		c = conv.Sign(api.FSgnjn, i.Size, c, c)
	}
	return soft.Fma(i.Size, rm, a, b, c)
}

// rounding is the mode of rounding; of instructions that have none, it is one that they don't ask for.
func (s *step) rounding() int {
	if s.inst.Rm != byRegister {
		return s.inst.Rm
	}
	rm := int(s.now.C.Fcsr >> roundingAt & roundingBits)
	if rm > lastRounding {
		s.refuse()
	}
	return rm
}

// float is that of a size in a register.
func (s *step) float(n, size int) uint64 {
	if size == 4 {
		return conv.Unbox(s.now.F[n])
	}
	return s.now.F[n]
}

// setFloat sets a float, and raises flags.
func (s *step) setFloat(v uint64, flags int) {
	if s.inst.Size == 4 {
		v = conv.Box(v)
	}
	rd := s.inst.Rd
	s.now.F[rd] = v
	s.record.Reg, s.record.Rd, s.record.Value = api.RegF, rd, v
	s.raise(flags)
}

// setWhole sets Rd, and raises flags. Without any the floats are as they were, so FS stays.
func (s *step) setWhole(v uint64, flags int) {
	s.set(v)
	if flags != 0 {
		s.raise(flags)
	}
}

// raise lays flags beside those that are there. The write leaves FS 3, also without any.
func (s *step) raise(flags int) {
	s.now.C = csr.Write(s.now.C, fflags, s.now.C.Fcsr|uint64(flags))
}
