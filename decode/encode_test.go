package decode_test

import (
	"testing"

	"tandem/api"
	"tandem/decode"
)

// The fields that a kind has, as the table names them.
const (
	hasRd = 1 << iota
	hasRs1
	hasRs2
	hasRs3
	hasRm
	hasCsr
)

// fields tells which fields a kind has.
func fields(x api.Inst) int {
	switch x.Kind {
	case api.Lui, api.Auipc, api.Jal:
		return hasRd
	case api.Jalr, api.Load, api.FLoad, api.Lr, api.FMoveX, api.FMoveF, api.FClass:
		return hasRd | hasRs1
	case api.Beq, api.Bne, api.Blt, api.Bge, api.Bltu, api.Bgeu, api.Store, api.FStore, api.SfenceVma:
		return hasRs1 | hasRs2
	case api.Fence, api.FenceI, api.Ecall, api.Ebreak, api.Mret, api.Sret, api.Wfi:
		return 0
	case api.Csrrw, api.Csrrs, api.Csrrc:
		if x.UseImm {
			return hasRd | hasCsr
		}
		return hasRd | hasRs1 | hasCsr
	case api.FSqrt, api.FConvert, api.FToInt, api.FFromInt:
		return hasRd | hasRs1 | hasRm
	case api.FAdd, api.FSub, api.FMul, api.FDiv:
		return hasRd | hasRs1 | hasRs2 | hasRm
	case api.FMadd, api.FMsub, api.FNmsub, api.FNmadd:
		return hasRd | hasRs1 | hasRs2 | hasRs3 | hasRm
	}
	if x.UseImm {
		return hasRd | hasRs1
	}
	return hasRd | hasRs1 | hasRs2
}

// sizes tells the sizes a kind may have.
func sizes(x api.Inst) []int {
	switch {
	case x.Kind == api.Load && x.Unsigned:
		return []int{1, 2, 4}
	case x.Kind == api.Load || x.Kind == api.Store:
		return []int{1, 2, 4, 8}
	case x.Kind >= api.Lr && x.Kind <= api.AmoMaxu, x.Kind >= api.FLoad && x.Kind < api.Kinds:
		return []int{4, 8}
	}
	return []int{0}
}

// immediates tells the lowest and the highest immediate a kind may have, and of which number it is to be a multiple.
func immediates(x api.Inst) (low, high, multiple int64) {
	switch x.Kind {
	case api.Lui, api.Auipc:
		return -1 << 31, 1<<31 - 4096, 4096
	case api.Jal:
		return -1 << 20, 1<<20 - 2, 2
	case api.Beq, api.Bne, api.Blt, api.Bge, api.Bltu, api.Bgeu:
		return -4096, 4094, 2
	case api.Jalr, api.Load, api.Store, api.FLoad, api.FStore:
		return -2048, 2047, 1
	case api.Csrrw, api.Csrrs, api.Csrrc:
		if x.UseImm {
			return 0, 31, 1
		}
	case api.Add, api.Slt, api.Sltu, api.Xor, api.Or, api.And:
		if x.UseImm {
			return -2048, 2047, 1
		}
	case api.Sll, api.Srl, api.Sra:
		if x.UseImm && x.Word {
			return 0, 31, 1
		}
		if x.UseImm {
			return 0, 63, 1
		}
	}
	return 0, 0, 1
}

// marks tells whether a kind may have the marks that it has.
func marks(x api.Inst) bool {
	imm, word, unsigned := false, false, false // which may be there
	switch x.Kind {
	case api.Load:
		unsigned = true
	case api.Add, api.Sll, api.Srl, api.Sra:
		imm, word = true, true
	case api.Slt, api.Sltu, api.Xor, api.Or, api.And, api.Csrrw, api.Csrrs, api.Csrrc:
		imm = true
	case api.Sub, api.Mul, api.Div, api.Divu, api.Rem, api.Remu:
		word = true
	case api.FToInt, api.FFromInt:
		word, unsigned = true, true
	}
	return !(x.UseImm && !imm || x.Word && !word || x.Unsigned && !unsigned)
}

func within(n, most int, there bool) bool {
	return n == 0 || there && n > 0 && n <= most
}

// fits tells whether the table has bits for an instruction.
func fits(x api.Inst) bool {
	if x.Kind <= api.Illegal || x.Kind >= api.Kinds || !marks(x) {
		return false
	}
	f := fields(x)
	registers := within(x.Rd, 31, f&hasRd != 0) && within(x.Rs1, 31, f&hasRs1 != 0) &&
		within(x.Rs2, 31, f&hasRs2 != 0) && within(x.Rs3, 31, f&hasRs3 != 0)
	others := within(x.Csr, 4095, f&hasCsr != 0) && within(x.Rm, 7, f&hasRm != 0) && x.Rm != 5 && x.Rm != 6
	size := false
	for _, s := range sizes(x) {
		size = size || s == x.Size
	}
	low, high, multiple := immediates(x)
	return registers && others && size && x.Imm >= low && x.Imm <= high && x.Imm%multiple == 0
}

// hold holds P3.2 on one instruction.
func hold(t *testing.T, x api.Inst) {
	t.Helper()
	b, ok := decode.Encode(x)
	switch {
	case ok != fits(x):
		t.Fatalf("%+v: %08x, %v", x, b, ok)
	case !ok && b != 0:
		t.Fatalf("%+v: %08x beside false", x, b)
	case ok && told(b) != x:
		t.Fatalf("%+v: %08x, which is %+v", x, b, told(b))
	}
}

// TestThereAndBack holds W8, P3.2 and P3.3: what is decoded has bits, which are decoded to the same; and of all bits that are decoded to it none lacks one of theirs, so that what may be anything is 0 in them.
func TestThereAndBack(t *testing.T) {
	there := func(b uint32) {
		x := decode.Decode(b)
		e, ok := decode.Encode(x)
		if ok != (x.Kind != api.Illegal) || decode.Decode(e) != x || e&^b != 0 {
			t.Fatalf("%08x: %+v, back %08x, %v", b, x, e, ok)
		}
	}
	eachShape(there)
	m := mix(5)
	for range 500000 {
		there(uint32(m.next()) | 3)
	}
}

// TestNoughts holds P3.2: what the table lets be anything is 0.
func TestNoughts(t *testing.T) {
	for _, c := range []struct {
		x    api.Inst
		bits uint32
	}{
		{api.Inst{Kind: api.Fence}, 0x0000000f}, {api.Inst{Kind: api.FenceI}, 0x0000100f},
		{api.Inst{Kind: api.Lr, Size: 4}, 0x1000202f}, {api.Inst{Kind: api.Sc, Rd: 1, Rs1: 2, Rs2: 3, Size: 8}, 0x183130af},
		{api.Inst{Kind: api.AmoMaxu, Rd: 31, Rs1: 31, Rs2: 31, Size: 8}, 0xe1ffbfaf}, {api.Inst{Kind: api.AmoAdd, Size: 4}, 0x0000202f},
	} {
		if b, ok := decode.Encode(c.x); !ok || b != c.bits {
			t.Errorf("%+v: %08x, %v, not %08x", c.x, b, ok, c.bits)
		}
	}
}

// edgeInts are numbers at and beyond the ends of fields.
var edgeInts = []int{0, 1, 2, 3, 4, 5, 6, 7, 8, 9, 15, 16, 31, 32, 33, 63, 64, 4095, 4096, 1 << 20, 1 << 32, 1<<32 + 4, 1<<32 + 8, 1<<63 - 1, -1, -2, -4, -8, -32, -1 << 63}

// edgeImms are immediates at and beyond the ends of fields.
var edgeImms = []int64{
	0, 1, 2, 3, 4, 6, 30, 31, 32, 33, 62, 63, 64, 65, 2046, 2047, 2048, 2049, 4094, 4095, 4096, 4097, 8192,
	1<<20 - 4, 1<<20 - 2, 1<<20 - 1, 1 << 20, 1<<21 - 2, 1 << 21, 1<<31 - 4096, 1<<31 - 1, 1 << 31, 1<<31 + 4096, 1 << 32, 1<<32 - 4096, 1<<32 + 8, 1<<63 - 1,
	-1, -2, -3, -4, -2047, -2048, -2049, -4094, -4095, -4096, -4097, -4098, -8192, -1<<20 + 2, -1<<20 + 1, -1 << 20, -1<<20 - 1, -1<<20 - 2, -1<<31 + 4096, -1 << 31, -1<<31 - 1, -1<<31 - 4096, -1 << 32, -1 << 63,
}

// eachChange hands on an instruction with one field changed, and each mark turned.
func eachChange(x api.Inst, visit func(api.Inst)) {
	for _, n := range edgeInts {
		for _, change := range [...]func(y *api.Inst){
			func(y *api.Inst) { y.Rd = n }, func(y *api.Inst) { y.Rs1 = n }, func(y *api.Inst) { y.Rs2 = n }, func(y *api.Inst) { y.Rs3 = n },
			func(y *api.Inst) { y.Rm = n }, func(y *api.Inst) { y.Csr = n }, func(y *api.Inst) { y.Size = n },
		} {
			y := x
			change(&y)
			visit(y)
		}
	}
	for _, n := range edgeImms {
		y := x
		y.Imm = n
		visit(y)
	}
	for turn := range 8 {
		y := x
		y.UseImm = y.UseImm != (turn&1 != 0)
		y.Word = y.Word != (turn&2 != 0)
		y.Unsigned = y.Unsigned != (turn&4 != 0)
		visit(y)
	}
}

// TestEncodeEveryField holds P3.2: each kind, with each mark and size, and then each of its fields at, within and beyond its ends.
func TestEncodeEveryField(t *testing.T) {
	for kind := -1; kind <= api.Kinds+1; kind++ {
		for turn := range 8 {
			for _, size := range [...]int{0, 1, 2, 4, 8} {
				x := api.Inst{Kind: kind, UseImm: turn&1 != 0, Word: turn&2 != 0, Unsigned: turn&4 != 0, Size: size}
				hold(t, x)
				if fits(x) {
					eachChange(x, func(y api.Inst) { hold(t, y) })
				}
			}
		}
	}
}

// TestEncodeKinds holds P3.2: kinds that there aren't have no bits, though their lowest bits are those of one.
func TestEncodeKinds(t *testing.T) {
	for _, x := range []api.Inst{{}, {Rd: 1}, {Imm: 4}, {Kind: -1}, {Kind: api.Kinds}, {Kind: api.Lui + 256}, {Kind: api.Lui - 256}, {Kind: 1 << 32}, {Kind: 1<<32 + api.Lui}, {Kind: -1 << 63}} {
		if b, ok := decode.Encode(x); ok || b != 0 {
			t.Errorf("%+v: %08x, %v", x, b, ok)
		}
	}
}

// TestEncodeMixed holds P3.2 on instructions whose fields are all changed at once.
func TestEncodeMixed(t *testing.T) {
	m := mix(11)
	some := func(most int) int {
		n := m.next()
		if n%8 == 0 {
			return edgeInts[m.next()%uint64(len(edgeInts))]
		}
		if n%8 < 4 {
			return 0
		}
		return int(m.next() % uint64(most))
	}
	for range 500000 {
		x := api.Inst{Kind: int(m.next() % (api.Kinds + 2)), Rd: some(32), Rs1: some(32), Rs2: some(32), Rm: some(8), Size: []int{0, 4, 8}[m.next()%3]}
		if m.next()%4 == 0 {
			x.Rs3, x.Csr, x.Size = some(32), some(4096), some(9)
		}
		if m.next()%2 == 0 {
			x.Imm = edgeImms[m.next()%uint64(len(edgeImms))]
		}
		n := m.next()
		x.UseImm, x.Word, x.Unsigned = n%2 == 0, n/2%4 == 0, n/8%4 == 0
		hold(t, x)
	}
}
