package uart_test

import (
	"testing"

	"tandem/uart"
)

// The chapter's examples, row by row.

func TestExampleOfANewOne(t *testing.T) {
	x := told{t, uart.New()}
	x.read(0, 0)
	x.read(5, 0x60)
	x.read(2, 1)
	x.none(0, 4)
	x.none(8, 1)
}

func TestExampleOfTheLine(t *testing.T) {
	x := told{t, uart.New()}
	x.u.Give('a')
	x.u.Give('b')
	x.up(false)
	x.write(1, 3)
	x.read(1, 1)
	x.up(true)
	x.read(2, 4)

	x.read(0, 'a')
	x.read(0, 'b')
	x.up(false)
	x.read(0, 0)
}

func TestExampleOfALostByte(t *testing.T) {
	x := told{t, uart.New()}
	for range 17 {
		x.u.Give('x')
	}
	x.read(5, 0x63)
	x.read(5, 0x61)
}

func TestExampleOfWhatGoesOut(t *testing.T) {
	x := told{t, uart.New()}
	x.write(0, 0x148)
	x.sent("H")
}
