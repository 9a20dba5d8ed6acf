package hart_test

import (
	"encoding/binary"

	"tandem/alu"
	"tandem/api"
	"tandem/bus"
	"tandem/conv"
	"tandem/csr"
	"tandem/decode"
	"tandem/soft"
	"tandem/squeeze"
	"tandem/trap"
	"tandem/walk"
)

// A book is a second reading of the chapter, with which answers are held: what a step leaves is worked out over a copy, and causes are handed back.
type book struct {
	b   *bus.Bus
	s   api.State
	wfi bool
	did int // the kind of the instruction that was done last
}

func (o *book) last() int {
	return o.did
}

func newBook(s api.Setup) *book {
	b, ok := bus.New(s)
	if !ok {
		return nil
	}
	o := &book{b: b, s: api.State{PC: s.PC / 2 * 2, Mode: 3}}
	o.s.C.Mstatus = 1<<33 + 1<<35
	for n, l := range s.Csrs {
		if n < 64 && csr.May(o.s.C, 3, l.Csr, true) {
			o.s.C = csr.Write(o.s.C, l.Csr, l.Value)
		}
	}
	return o
}

func (o *book) tick(cycle int64) {
	for n := o.b.Cycle() + 1; n <= cycle; n++ {
		o.b.Tick()
		o.s.C.Mcycle += 1 - o.s.C.Mcountinhibit%2
	}
}

func (o *book) waits() bool {
	return o.wfi && trap.Waits(o.s.C, o.b.Pending())
}

func (o *book) enter(r api.Record) api.Record {
	r.Cycle, r.PC, r.Mode = o.b.Cycle(), o.s.PC, o.s.Mode
	o.s.C, o.s.Mode, o.s.PC = trap.Enter(o.s.C, o.s.Mode, o.s.PC, r.Cause, r.Tval)
	r.Next = o.s.PC
	o.wfi = false
	return r
}

func (o *book) interrupt() (api.Record, bool) {
	cause, ok := trap.Pending(o.s.C, o.s.Mode, o.b.Pending())
	if !ok {
		return api.Record{}, false
	}
	return o.enter(api.Record{Kind: 3, Cause: cause}), true
}

// A page of the book is one step: what is written to memory waits in it until all else is known.
type page struct {
	*book
	inst   api.Inst
	r      api.Record
	length uint64
}

func (o *book) step() api.Record {
	ahead := o.s
	p := &page{book: o}
	cause, tval := p.read()
	if cause == 0 {
		cause, tval = p.work()
	}
	if cause != 0 {
		o.s = ahead
		return o.enter(api.Record{Kind: 2, Bits: p.r.Bits, Cause: cause, Tval: tval})
	}
	if ahead.C.Mcountinhibit/4%2 == 0 && p.r.Csr != 0xb03 {
		o.s.C.Minstret++
	}
	if p.r.Csr != 0 {
		p.r.CsrValue = csr.Read(o.s.C, p.r.Csr-1, o.b.Pending(), o.b.Time())
	}
	if p.r.Mem == api.Write || p.r.Mem == api.Atomic {
		o.b.Write(p.r.Addr, p.r.Size, p.r.Data)
		if p.r.Csr != 0 {
			panic("a register and memory at once")
		}
	}
	p.r.Kind, p.r.Cycle, p.r.PC, p.r.Mode, p.r.Next = 1, o.b.Cycle(), ahead.PC, ahead.Mode, o.s.PC
	o.did, o.wfi = p.inst.Kind, p.inst.Kind == api.Wfi
	return p.r
}

// read fetches the instruction.
func (p *page) read() (cause, tval uint64) {
	var l [2]uint32
	for n := range l {
		at := p.s.PC + 2*uint64(n)
		place, cause := walk.Reach(p.b, &p.s.C, p.s.Mode, api.Fetch, at, 2)
		if cause != 0 {
			return cause, at
		}
		v, _ := p.b.Read(api.Fetch, place, 2)
		l[n] = uint32(v)
		if l[0]%4 != 3 {
			p.r.Bits, p.length = l[0], 2
			bits, _ := squeeze.Expand(uint16(l[0])) // 0, where there is none: no instruction either
			p.inst = decode.Decode(bits)
			return 0, 0
		}
	}
	p.r.Bits, p.length = l[0]+l[1]<<16, 4
	p.inst = decode.Decode(p.r.Bits)
	return 0, 0
}

func (p *page) illegal() (cause, tval uint64) {
	return 2, uint64(p.r.Bits)
}

// set sets Rd.
func (p *page) set(v uint64) (cause, tval uint64) {
	if p.inst.Rd != 0 {
		p.s.X[p.inst.Rd] = v
		p.r.Reg, p.r.Rd, p.r.Value = 1, p.inst.Rd, v
	}
	return 0, 0
}

// widened is a number of bytes with its sign.
func widened(v uint64, size int) uint64 {
	var l [8]byte
	binary.LittleEndian.PutUint64(l[:], v)
	for n := size; n < 8; n++ {
		l[n] = byte(int8(l[size-1]) >> 7)
	}
	return binary.LittleEndian.Uint64(l[:])
}

// cut is its lowest bytes.
func cut(v uint64, size int) uint64 {
	if size == 8 {
		return v
	}
	return v % (1 << (8 * size))
}

// access finds where data is.
func (p *page) access(kind int, at uint64) (place, cause, tval uint64) {
	if at%uint64(p.inst.Size) != 0 {
		if kind == api.Read {
			return 0, 4, at
		}
		return 0, 6, at
	}
	place, cause = walk.Reach(p.b, &p.s.C, p.s.Mode, kind, at, p.inst.Size)
	p.r.Mem, p.r.Addr, p.r.Size = kind, place, p.inst.Size
	return place, cause, at
}

func (p *page) work() (cause, tval uint64) {
	i, pc := p.inst, p.s.PC
	a, b, imm := p.s.X[i.Rs1], p.s.X[i.Rs2], uint64(i.Imm)
	p.s.PC = pc + p.length
	second := b
	if i.UseImm {
		second = imm
	}
	if v, ok := alu.Do(i.Kind, i.Word, a, second); ok {
		return p.set(v)
	}
	if taken, ok := alu.Branch(i.Kind, a, b); ok {
		if taken {
			p.s.PC = pc + imm
		}
		return 0, 0
	}
	switch i.Kind {
	case api.Illegal:
		return p.illegal()
	case api.Lui:
		return p.set(imm)
	case api.Auipc:
		return p.set(pc + imm)
	case api.Jal:
		p.s.PC = pc + imm
		return p.set(pc + p.length)
	case api.Jalr:
		p.s.PC = (a + imm) / 2 * 2
		return p.set(pc + p.length)
	case api.Ecall:
		return map[int]uint64{0: 8, 1: 9, 3: 11}[p.s.Mode], 0
	case api.Ebreak:
		return 3, pc
	case api.Mret, api.Sret, api.Wfi, api.SfenceVma:
		return p.workOfModes()
	case api.Csrrw, api.Csrrs, api.Csrrc:
		return p.workOfRegisters(a)
	}
	if i.Kind >= api.FLoad {
		return p.workOfFloats(a)
	}
	if i.Size != 0 {
		return p.workOfData(a, b)
	}
	return 0, 0
}

func (p *page) workOfModes() (cause, tval uint64) {
	k, c := p.inst.Kind, p.s.C
	keeps := map[int]uint64{api.Sret: 22, api.Wfi: 21, api.SfenceVma: 20}
	switch {
	case p.s.Mode == 0, k == api.Mret && p.s.Mode != 3, k != api.Mret && p.s.Mode == 1 && c.Mstatus>>keeps[k]%2 == 1:
		return p.illegal()
	}
	if k == api.Mret || k == api.Sret {
		p.s.C, p.s.Mode, p.s.PC = trap.Return(c, k)
	}
	return 0, 0
}

func (p *page) workOfRegisters(a uint64) (cause, tval uint64) {
	i := p.inst
	none := i.Rs1 == 0
	if i.UseImm {
		a, none = uint64(i.Imm), i.Imm == 0
	}
	writes := i.Kind == api.Csrrw || !none
	if !csr.May(p.s.C, p.s.Mode, i.Csr, writes) {
		return p.illegal()
	}
	read := csr.Read(p.s.C, i.Csr, p.b.Pending(), p.b.Time())
	old := read
	if i.Csr == 0x144 || i.Csr == 0x344 {
		old = csr.Read(p.s.C, i.Csr, 0, p.b.Time())
	}
	if writes {
		p.s.C = csr.Write(p.s.C, i.Csr, map[int]uint64{api.Csrrw: a, api.Csrrs: old | a, api.Csrrc: old &^ a}[i.Kind])
		p.r.Csr = i.Csr + 1
	}
	return p.set(read)
}

func (p *page) workOfData(a, b uint64) (cause, tval uint64) {
	i := p.inst
	switch i.Kind {
	case api.Load:
		place, cause, tval := p.access(api.Read, a+uint64(i.Imm))
		if cause != 0 {
			return cause, tval
		}
		v, _ := p.b.Read(api.Read, place, i.Size)
		if !i.Unsigned {
			v = widened(v, i.Size)
		}
		return p.set(v)
	case api.Store:
		_, cause, tval := p.access(api.Write, a+uint64(i.Imm))
		p.r.Data = cut(b, i.Size)
		return cause, tval
	case api.Lr:
		place, cause, tval := p.access(api.Read, a)
		if cause == 0 && !p.b.Plain(place, i.Size) {
			cause, tval = 5, a
		}
		if cause != 0 {
			return cause, tval
		}
		v, _ := p.b.Read(api.Read, place, i.Size)
		p.s.Reserved, p.s.Address, p.s.Size = true, place, i.Size
		return p.set(widened(v, i.Size))
	case api.Sc:
		place, cause, tval := p.access(api.Write, a)
		if cause == 0 && !p.b.Plain(place, i.Size) {
			cause, tval = 7, a
		}
		if cause != 0 {
			return cause, tval
		}
		has := p.s.Reserved && p.s.Address == place && p.s.Size == i.Size
		p.s.Reserved, p.s.Address, p.s.Size = false, 0, 0
		if !has {
			p.r.Mem, p.r.Addr, p.r.Size = 0, 0, 0
			return p.set(1)
		}
		p.r.Data = cut(b, i.Size)
		return p.set(0)
	}
	place, cause, tval := p.access(api.Atomic, a)
	if cause != 0 {
		return cause, tval
	}
	v, _ := p.b.Read(api.Atomic, place, i.Size)
	p.r.Data, _ = alu.Atomic(i.Kind, i.Size, v, b)
	return p.set(widened(v, i.Size))
}

// float is one of the size.
func (p *page) float(n, size int) uint64 {
	v := p.s.F[n]
	if size == 8 {
		return v
	}
	if v>>32 != 1<<32-1 {
		return 0x7fc00000
	}
	return v % (1 << 32)
}

// put sets a float.
func (p *page) put(v uint64, flags int) (cause, tval uint64) {
	if p.inst.Size == 4 {
		v = v%(1<<32) + (1<<32-1)<<32
	}
	p.s.F[p.inst.Rd] = v
	p.r.Reg, p.r.Rd, p.r.Value = 2, p.inst.Rd, v
	p.s.C.Fcsr |= uint64(flags)
	p.s.C.Mstatus |= 1<<13 | 1<<14 | 1<<63
	return 0, 0
}

// tell sets Rd, and raises flags.
func (p *page) tell(v uint64, flags int) (cause, tval uint64) {
	if flags != 0 {
		p.s.C.Fcsr |= uint64(flags)
		p.s.C.Mstatus |= 1<<13 | 1<<14 | 1<<63
	}
	return p.set(v)
}

func (p *page) workOfFloats(n uint64) (cause, tval uint64) {
	i := p.inst
	rm := i.Rm
	if rm == 7 {
		rm = int(p.s.C.Fcsr / 32 % 8)
	}
	if p.s.C.Mstatus>>13%4 == 0 || i.Rm == 7 && rm > 4 {
		return p.illegal()
	}
	a, b, c := p.float(i.Rs1, i.Size), p.float(i.Rs2, i.Size), p.float(i.Rs3, i.Size)
	sign := uint64(1) << (8*i.Size - 1)
	switch i.Kind {
	case api.FLoad:
		place, cause, tval := p.access(api.Read, n+uint64(i.Imm))
		if cause != 0 {
			return cause, tval
		}
		v, _ := p.b.Read(api.Read, place, i.Size)
		return p.put(v, 0)
	case api.FStore:
		_, cause, tval := p.access(api.Write, n+uint64(i.Imm))
		p.r.Data = cut(p.s.F[i.Rs2], i.Size)
		return cause, tval
	case api.FAdd:
		return p.put(soft.Add(i.Size, rm, a, b))
	case api.FSub:
		return p.put(soft.Sub(i.Size, rm, a, b))
	case api.FMul:
		return p.put(soft.Mul(i.Size, rm, a, b))
	case api.FDiv:
		return p.put(soft.Div(i.Size, rm, a, b))
	case api.FSqrt:
		return p.put(soft.Sqrt(i.Size, rm, a))
	case api.FMadd:
		return p.put(soft.Fma(i.Size, rm, a, b, c))
	case api.FMsub:
		return p.put(soft.Fma(i.Size, rm, a, b, c^sign))
	case api.FNmsub:
		return p.put(soft.Fma(i.Size, rm, a^sign, b, c))
	case api.FNmadd:
		return p.put(soft.Fma(i.Size, rm, a^sign, b, c^sign))
	case api.FSgnj, api.FSgnjn, api.FSgnjx:
		return p.put(conv.Sign(i.Kind, i.Size, a, b), 0)
	case api.FMin, api.FMax:
		return p.put(conv.Pick(i.Kind, i.Size, a, b))
	case api.FEq, api.FLt, api.FLe:
		return p.tell(conv.Compare(i.Kind, i.Size, a, b))
	case api.FClass:
		return p.set(conv.Class(i.Size, a))
	case api.FToInt:
		return p.tell(conv.ToInt(i.Size, rm, i.Word, i.Unsigned, a))
	case api.FFromInt:
		return p.put(conv.FromInt(i.Size, rm, i.Word, i.Unsigned, n))
	case api.FConvert:
		return p.put(conv.Convert(i.Size, rm, p.float(i.Rs1, map[int]int{4: 8, 8: 4}[i.Size])))
	case api.FMoveX:
		return p.set(widened(p.s.F[i.Rs1], i.Size))
	}
	return p.put(n, 0) // FMoveF
}
