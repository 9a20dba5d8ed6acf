package hart_test

import (
	"bytes"
	"encoding/binary"
	"fmt"
	"reflect"
	"slices"
	"strings"
	"testing"

	"tandem/api"
	"tandem/decode"
	"tandem/hart"
	"tandem/trap"
)

// Where a world has what.
const (
	base   = uint64(api.RamBase)
	lore   = base + 0x400  // the numbers that registers get
	code   = base + 0x1000 // the instructions that are looked at
	data   = base + 0x2000
	tables = base + 0x3000 // three of them, from the level 2 down
	spare  = base + 0x6000 // two pages
	size   = 0x8000
)

// The fields of Mstatus.
const (
	sie  = 1 << 1
	mie  = 1 << 3
	spie = 1 << 5
	mpie = 1 << 7
	spp  = 1 << 8
	mpp  = 3 << 11
	fs   = 3 << 13
	mprv = 1 << 17
	sum  = 1 << 18
	mxr  = 1 << 19
	tvm  = 1 << 20
	tw   = 1 << 21
	tsr  = 1 << 22
	sd   = 1 << 63
)

// The modes by their letters.
const (
	inU = api.User
	inS = api.Supervisor
	inM = api.Machine
)

// bitsOf is an instruction of 4 bytes.
func bitsOf(t *testing.T, x api.Inst) uint32 {
	t.Helper()
	bits, ok := decode.Encode(x)
	if !ok {
		t.Fatalf("no instruction: %+v", x)
	}
	return bits
}

// row is instructions as bytes: of 2 bytes each that doesn't end in two ones.
func row(l ...uint32) []byte {
	var b []byte
	for _, n := range l {
		if n&3 != 3 {
			b = binary.LittleEndian.AppendUint16(b, uint16(n))
		} else {
			b = binary.LittleEndian.AppendUint32(b, n)
		}
	}
	return b
}

// A world is what a hart holds when it comes to the instructions that are looked at.
type world struct {
	image  []byte
	at     uint64
	mode   int
	status uint64 // Mstatus' fields
	x, f   [32]uint64
	lays   []api.Lay
	events []api.Event
}

// bare is a world in M, without paging, in which pmp allows all and registers have numbers of their own.
func bare() *world {
	w := &world{image: make([]byte, size), at: code, mode: inM, status: fs}
	for n := range 32 {
		w.x[n] = 0x1111111111111111*uint64(n%16) + uint64(n)
		w.f[n] = 0x3ff0000000000000 + uint64(n)
	}
	w.x[0] = 0
	w.lay(0x3a0, 0x1f<<56)
	w.lay(0x3b7, 1<<54-1)
	w.lay(0x305, base+0xc00)
	w.lay(0x105, base+0xd00)
	for n := uint64(0); n < 0x1000; n++ {
		w.image[data-base+n] = byte(0x80 + n*5)
	}
	return w
}

// laid is w with instructions where it comes to.
func (w *world) laid(l ...uint32) *world {
	copy(w.image[code-base:], row(l...))
	return w
}

// lay has the setup lay a register.
func (w *world) lay(n int, v uint64) {
	w.lays = append(w.lays, api.Lay{Csr: n, Value: v})
}

// put lays a double.
func (w *world) put(at, v uint64) {
	binary.LittleEndian.PutUint64(w.image[at-base:], v)
}

// prologue gives the registers their numbers and leads to where w is.
func (w *world) prologue(t *testing.T) []uint32 {
	l := []uint32{bitsOf(t, api.Inst{Kind: api.Auipc, Rd: 1})}
	for n := range 32 {
		l = append(l, bitsOf(t, api.Inst{Kind: api.FLoad, Rd: n, Rs1: 1, Imm: int64(0x400 + 8*n), Size: 8}))
	}
	for n := 2; n < 32; n++ {
		l = append(l, bitsOf(t, api.Inst{Kind: api.Load, Rd: n, Rs1: 1, Imm: int64(0x500 + 8*n), Size: 8}))
	}
	l = append(l, bitsOf(t, api.Inst{Kind: api.Load, Rd: 2, Rs1: 1, Imm: 0x500, Size: 8}),
		bitsOf(t, api.Inst{Kind: api.Csrrw, Rs1: 2, Csr: 0x300}),
		bitsOf(t, api.Inst{Kind: api.Csrrs, Rd: 2, Csr: 0x140}),
		bitsOf(t, api.Inst{Kind: api.Csrrs, Rd: 1, Csr: 0x340}))
	if w.mode != inM {
		return append(l, bitsOf(t, api.Inst{Kind: api.Mret}))
	}
	return append(l, bitsOf(t, api.Inst{Kind: api.Jal, Imm: int64(w.at - base - 4*uint64(len(l)))}))
}

// setup is that which leads to w.
func (w *world) setup(t *testing.T) api.Setup {
	copy(w.image, row(w.prologue(t)...))
	status := w.status
	if w.mode != inM { // mret makes MPIE MIE, and MPP the mode
		status = status&^mpp | uint64(w.mode)<<11
		if status&mie != 0 {
			status |= mpie
		}
	}
	for n := range 32 {
		w.put(lore+8*uint64(n), w.f[n])
		w.put(lore+0x100+8*uint64(n), w.x[n])
	}
	w.put(lore+0x100, status)
	lays := append([]api.Lay{{Csr: 0x300, Value: fs}, {Csr: 0x140, Value: w.x[2]}, {Csr: 0x340, Value: w.x[1]}, {Csr: 0x341, Value: w.at}}, w.lays...)
	return api.Setup{Image: w.image, PC: base, Csrs: lays, Events: w.events}
}

// told holds what a hart tells against what is asked for.
type told struct {
	t     *testing.T
	h     *hart.Hart
	cycle int64
}

// told is the hart that has come to where w is, in cycle 0.
func (w *world) told(t *testing.T) *told {
	t.Helper()
	o := &told{t: t, h: hart.New(w.setup(t))}
	if o.h == nil {
		t.Fatal("there is no hart")
	}
	o.to(0)
	for range w.prologue(t) {
		if r := o.h.Step(); r.Kind != api.Done {
			t.Fatalf("on the way: %+v", r)
		}
	}
	if s := o.h.State(); s.PC != w.at || s.Mode != w.mode || s.X != w.x || s.F != w.f {
		t.Fatalf("it came to %+v", s)
	}
	return o
}

// to lets cycles begin.
func (o *told) to(cycle int64) {
	o.h.Tick(cycle)
	o.cycle = cycle
}

// memory is what the RAM has that worlds turn.
func (o *told) memory() []byte {
	return o.h.Bytes(base, size)
}

// apart is in which fields two states, records or the like differ.
func apart(is, want any) []string {
	return fieldsApart("", reflect.ValueOf(is), reflect.ValueOf(want))
}

func fieldsApart(name string, is, want reflect.Value) (l []string) {
	switch is.Kind() {
	case reflect.Struct:
		for n := range is.NumField() {
			l = append(l, fieldsApart(name+" "+is.Type().Field(n).Name, is.Field(n), want.Field(n))...)
		}
	case reflect.Array:
		for n := range is.Len() {
			l = append(l, fieldsApart(fmt.Sprintf("%s %d", name, n), is.Index(n), want.Index(n))...)
		}
	default:
		if !is.Equal(want) {
			l = append(l, fmt.Sprintf("%s: %#x, not %#x", name[1:], is, want))
		}
	}
	return l
}

// tells holds a record.
func (o *told) tells(r, want api.Record) {
	o.t.Helper()
	if l := apart(r, want); l != nil {
		o.t.Errorf("%x at %x: it tells otherwise: %s", want.Bits, want.PC, strings.Join(l, "; "))
	}
}

// holds holds what the hart holds, and the memory.
func (o *told) holds(s api.State, m []byte) {
	o.t.Helper()
	if l := apart(o.h.State(), s); l != nil {
		o.t.Errorf("it holds otherwise: %s", strings.Join(l, "; "))
	}
	if !bytes.Equal(o.memory(), m) {
		o.t.Errorf("another memory")
	}
}

// does holds that an instruction is done, that its record tells want beside what all tell, and that nothing but what the record tells, and turn, is turned. Where want has no Next, it is the one behind.
func (o *told) does(bits uint32, want api.Record, turn func(s *api.State)) {
	o.t.Helper()
	s, m := o.h.State(), o.memory()
	want.Kind, want.Cycle, want.PC, want.Mode, want.Bits = api.Done, o.cycle, s.PC, s.Mode, bits
	if want.Next == 0 {
		want.Next = s.PC + uint64(len(row(bits)))
	}
	o.tells(o.h.Step(), want)
	s.PC = want.Next
	s.C.Minstret++
	switch want.Reg {
	case api.RegX:
		s.X[want.Rd] = want.Value
	case api.RegF:
		s.F[want.Rd] = want.Value
		s.C.Mstatus |= fs | sd
	}
	if turn != nil {
		turn(&s)
	}
	if at := want.Addr - base; (want.Mem == api.Write || want.Mem == api.Atomic) && at < size {
		var l [8]byte
		binary.LittleEndian.PutUint64(l[:], want.Data)
		copy(m[at:], l[:want.Size])
	}
	o.holds(s, m)
}

// sets holds that an instruction sets Rd, and does nothing else.
func (o *told) sets(bits uint32, rd int, v uint64) {
	o.t.Helper()
	o.does(bits, api.Record{Reg: api.RegX, Rd: rd, Value: v}, nil)
}

// traps holds that a step traps, and does nothing else.
func (o *told) traps(bits uint32, cause, tval uint64) {
	o.t.Helper()
	s, m := o.h.State(), o.memory()
	want := api.Record{Kind: api.Trap, Cycle: o.cycle, PC: s.PC, Bits: bits, Mode: s.Mode, Cause: cause, Tval: tval}
	s.C, s.Mode, s.PC = trap.Enter(s.C, s.Mode, s.PC, cause, tval)
	want.Next = s.PC
	o.tells(o.h.Step(), want)
	o.holds(s, m)
}

// refused holds that an instruction is none here.
func (o *told) refused(bits uint32) {
	o.t.Helper()
	o.traps(bits, api.IllegalInst, uint64(bits))
}

// taken holds that an interrupt is taken, and nothing else done.
func (o *told) taken(cause uint64) {
	o.t.Helper()
	s, m := o.h.State(), o.memory()
	want := api.Record{Kind: api.Taken, Cycle: o.cycle, PC: s.PC, Mode: s.Mode, Cause: cause}
	s.C, s.Mode, s.PC = trap.Enter(s.C, s.Mode, s.PC, cause, 0)
	want.Next = s.PC
	r, ok := o.h.Interrupt()
	if !ok {
		o.t.Error("there is no interrupt")
	}
	o.tells(r, want)
	o.holds(s, m)
}

// untaken holds that there is no interrupt, and that nothing is done.
func (o *told) untaken() {
	o.t.Helper()
	s, m := o.h.State(), o.memory()
	if r, ok := o.h.Interrupt(); ok || r != (api.Record{}) {
		o.t.Errorf("told is %+v, %v", r, ok)
	}
	o.holds(s, m)
}

func (o *told) waits(want bool) {
	o.t.Helper()
	if o.h.Waits() != want {
		o.t.Errorf("Waits: not %v", want)
	}
}

// of is a row of instructions' kinds, from one to another.
func of(first, last int) []int {
	var l []int
	for k := first; k <= last; k++ {
		l = append(l, k)
	}
	return l
}

// oneOf tells whether a kind is one of a row.
func oneOf(k int, rows ...[]int) bool {
	return slices.ContainsFunc(rows, func(l []int) bool { return slices.Contains(l, k) })
}

// inst is an instruction of a kind, of a size where it may have several: 5 and 6 (and 7) are read, 4 is set.
func inst(k, size int) api.Inst {
	x := api.Inst{Kind: k, Rd: 4, Rs1: 5, Rs2: 6, Size: size}
	switch {
	case oneOf(k, of(api.Lui, api.Jal)):
		return api.Inst{Kind: k, Rd: 4}
	case oneOf(k, of(api.Beq, api.Bgeu), []int{api.SfenceVma}):
		return api.Inst{Kind: k, Rs1: 5, Rs2: 6}
	case oneOf(k, []int{api.Store, api.FStore}):
		return api.Inst{Kind: k, Rs1: 5, Rs2: 6, Size: size}
	case oneOf(k, []int{api.Load, api.FLoad, api.Lr, api.FSqrt, api.FClass, api.FToInt, api.FFromInt, api.FConvert, api.FMoveX, api.FMoveF}):
		return api.Inst{Kind: k, Rd: 4, Rs1: 5, Size: size}
	case oneOf(k, of(api.FMadd, api.FNmadd)):
		x.Rs3 = 7
	case oneOf(k, of(api.Add, api.Remu)):
		x.Size = 0
	case k == api.Jalr:
		return api.Inst{Kind: k, Rd: 4, Rs1: 5}
	case oneOf(k, of(api.Csrrw, api.Csrrc)):
		return api.Inst{Kind: k, Rd: 4, Rs1: 5, Csr: 0x340}
	case oneOf(k, []int{api.Fence, api.FenceI, api.Ecall, api.Ebreak, api.Mret, api.Sret, api.Wfi}):
		return api.Inst{Kind: k}
	}
	return x
}
