package plic

import "tandem/api"

// The kinds of registers.
const (
	nowhere = iota // none
	priorityOf
	waitingOnes
	enabledFor
	thresholdOf
	claimBy
)

// A register is one of a kind, and the number of the source or of the context that it is of.
type register struct {
	kind, of int
}

// find tells which register an access reaches.
func find(at uint64, size int) register {
	if size != 4 {
		return register{}
	}
	if at <= 4*api.Sources && at%4 == 0 {
		return register{priorityOf, int(at / 4)}
	}
	if at == 0x1000 {
		return register{kind: waitingOnes}
	}
	for c := range contexts {
		switch k := uint64(c); at {
		case 0x2000 + 0x80*k:
			return register{enabledFor, c}
		case 0x200000 + 0x1000*k:
			return register{thresholdOf, c}
		case 0x200004 + 0x1000*k:
			return register{claimBy, c}
		}
	}
	return register{}
}
