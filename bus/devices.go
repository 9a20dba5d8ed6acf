package bus

import (
	"tandem/api"
	"tandem/clint"
	"tandem/plic"
	"tandem/uart"
)

// How many bytes the devices have, from their first addresses on.
const (
	clintSize = 0x10000
	plicSize  = 0x400000
	uartSize  = 8
)

// uartSource is the number of the PLIC's source that the UART's line leads to.
const uartSource = 1

// A device has registers, told by how far they lie behind its first address, and by their size.
type device interface {
	Read(at uint64, size int) (uint64, bool)
	Write(at uint64, size int, v uint64) bool
}

// nowhere is the device of all addresses that no other one has: one without registers.
type nowhere struct{}

// Read reads nothing.
func (nowhere) Read(uint64, int) (uint64, bool) {
	return 0, false
}

// Write writes nothing.
func (nowhere) Write(uint64, int, uint64) bool {
	return false
}

// devices are all of them.
type devices struct {
	clint  *clint.Clint
	plic   *plic.Plic
	uart   *uart.Uart
	raised bool // the inputs have the line of the UART's source up, whatever the UART does
}

// atFirst is those to which nothing was done.
func atFirst() devices {
	return devices{clint: clint.New(), plic: plic.New(), uart: uart.New()}
}

// copied is some of their own that go on alike.
func (d *devices) copied() devices {
	return devices{d.clint.Copy(), d.plic.Copy(), d.uart.Copy(), d.raised}
}

// find tells an address as its device, and how far it lies behind the device's first one. A lesser address than that comes round to a far one.
func (d *devices) find(at uint64) (device, uint64) {
	if far := at - api.ClintBase; far < clintSize {
		return d.clint, far
	}
	if far := at - api.PlicBase; far < plicSize {
		return d.plic, far
	}
	if far := at - api.UartBase; far < uartSize {
		return d.uart, far
	}
	return nowhere{}, at
}

// have tells whether there is a register. Copies are asked, as a read may do more than tell.
func (d *devices) have(at uint64, size int) bool {
	o := d.copied()
	x, far := o.find(at)
	_, ok := x.Read(far, size)
	return ok
}

// read reads a register; false: there is none.
func (d *devices) read(at uint64, size int) (uint64, bool) {
	x, far := d.find(at)
	v, ok := x.Read(far, size)
	d.follow()
	return v, ok
}

// write writes one; false: there is none.
func (d *devices) write(at uint64, size int, v uint64) bool {
	x, far := d.find(at)
	ok := x.Write(far, size, v)
	d.follow()
	return ok
}

// follow lets the line of the UART's source be where the inputs and the UART have it. All that may move the UART's line ends with it, so that the PLIC sees each turn of the line; to be told a line anew is nothing to it.
func (d *devices) follow() {
	d.plic.Line(uartSource, d.raised || d.uart.Up())
}
