package squeeze

import "math/bits"

// A places tells where an immediate's bits stand in a half, and, a digit of base sixteen for each of these from the highest down, which bits of the immediate they are.
type places struct {
	from   uint16
	to     uint64
	signed bool
}

// The immediates by their shapes.
const (
	immNone = iota
	immFrame
	immDouble
	immWord
	immSigned
	immShift
	immStack
	immJump
	immBranch
	immLoadDouble
	immLoadWord
	immSaveDouble
	immSaveWord
)

var immediates = [...]places{
	immNone:       {0, 0, false},
	immFrame:      {0x1fe0, 0x54987623, false},
	immDouble:     {0x1c60, 0x54376, false},
	immWord:       {0x1c60, 0x54326, false},
	immSigned:     {bitsImm, 0x543210, true},
	immShift:      {bitsImm, 0x543210, false},
	immStack:      {bitsImm, 0x946875, true},
	immJump:       {0x1ffc, 0xb498a673215, true},
	immBranch:     {0x1c7c, 0x84376215, true},
	immLoadDouble: {bitsImm, 0x543876, false},
	immLoadWord:   {bitsImm, 0x543276, false},
	immSaveDouble: {0x1f80, 0x543876, false},
	immSaveWord:   {0x1f80, 0x543276, false},
}

// gather tells the immediate that a half holds.
func (p places) gather(h uint16) uint32 {
	var imm uint32
	top := 31
	to := p.to
	for left := p.from; left != 0; left &= left - 1 {
		top = int(to & 15)
		imm |= uint32(h>>bits.TrailingZeros16(left)&1) << top
		to >>= 4
	}
	if p.signed { // the highest of the bits in the half is the highest of the immediate, and the last one here
		imm = uint32(int32(imm<<(31-top)) >> (31 - top))
	}
	return imm
}

// scatter tells the bits of a half that hold an immediate; what has no place there is left out.
func (p places) scatter(imm uint32) uint16 {
	var h uint16
	to := p.to
	for left := p.from; left != 0; left &= left - 1 {
		h |= uint16(imm>>(to&15)&1) << bits.TrailingZeros16(left)
		to >>= 4
	}
	return h
}
