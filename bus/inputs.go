package bus

import (
	"math"

	"tandem/api"
)

// mayCome tells whether these are inputs that a setup may have.
func mayCome(inputs []api.Event) bool {
	if len(inputs) > api.MaxEvents {
		return false
	}
	last := int64(0)
	for _, e := range inputs {
		if e.Cycle < last || !isOne(e) {
			return false
		}
		last = e.Cycle
	}
	return true
}

// isOne tells whether there is such an input, whenever it comes.
func isOne(e api.Event) bool {
	switch e.Kind {
	case api.EventByte:
		return e.N == 0 && e.V <= math.MaxUint8
	case api.EventLine:
		return e.N >= 1 && e.N <= api.Sources && e.V <= 1
	}
	return false
}

// come lets an input come.
func (d *devices) come(e api.Event) {
	up := e.V == 1
	switch {
	case e.Kind == api.EventByte:
		d.uart.Give(byte(e.V))
		d.follow()
	case e.N == uartSource:
		d.raised = up
		d.follow()
	default:
		d.plic.Line(e.N, up)
	}
}
