package decode_test

import (
	"testing"

	"tandem/api"
	"tandem/decode"
)

// TestLowestBits holds P3.3: bits whose two lowest are not both 1 are none.
func TestLowestBits(t *testing.T) {
	var low uint32
	eachShape(func(b uint32) {
		low = (low + 1) % 3
		if x := decode.Decode(b&^3 | low); x != (api.Inst{}) {
			t.Fatalf("%08x: %+v, not none", b&^3|low, x)
		}
	})
}

// TestFieldsAreInRange holds P3.3: registers are 0 to 31, immediates of branches and jumps even.
func TestFieldsAreInRange(t *testing.T) {
	register := func(n int) bool { return n >= 0 && n <= 31 }
	m := mix(13)
	for range 2000000 {
		b := uint32(m.next()) | 3
		x := decode.Decode(b)
		if !register(x.Rd) || !register(x.Rs1) || !register(x.Rs2) || !register(x.Rs3) {
			t.Fatalf("%08x: %+v", b, x)
		}
		if jump := x.Kind >= api.Jal && x.Kind <= api.Bgeu && x.Kind != api.Jalr; jump && x.Imm%2 != 0 {
			t.Fatalf("%08x: %+v", b, x)
		}
	}
}
