package uart

// The registers that hold or do something, by their places.
const (
	data    = 0
	setting = 1
	cause   = 2
	state   = 5
	scratch = 7
)

// registers is how many there are, each of one byte.
const registers = 8

// there tells whether an access reaches a register.
func there(at uint64, size int) bool {
	return at < registers && size == 1
}

// What the register of the state tells.
const (
	waits   = 1 << 0
	wasLost = 1 << 1
	idle    = 3 << 5 // what is written goes out at once
)

// cause tells why the line is up, or that it isn't.
func (u *Uart) cause() uint64 {
	if u.Up() {
		return 4
	}
	return 1
}

// state tells of the queue, and forgets what was lost.
func (u *Uart) state() uint64 {
	v := uint64(idle)
	if len(u.queue) > 0 {
		v |= waits
	}
	if u.lost {
		v |= wasLost
	}
	u.lost = false
	return v
}
