package uart

// take cuts the queue's first byte off.
func (u *Uart) take() byte {
	if len(u.queue) == 0 {
		return 0
	}
	b := u.queue[0]
	u.queue = u.queue[1:]
	return b
}

// withoutRoom is a list behind which nothing can be appended in place: the room there stays with the one that it was copied from.
func withoutRoom(l []byte) []byte {
	return l[:len(l):len(l)]
}
