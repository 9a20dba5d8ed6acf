package pmp_test

import "tandem/api"

// has tells whether an entry's range has a byte, by the word of 4 bytes in which it lies: each way lets some words in, and for this no ends of ranges need be known.
func (e entries) has(n int, at uint64) bool {
	const looked = 1<<54 - 1
	word, own := at/4, e.addr[n]&looked
	switch e.cfg[n] / 8 % 4 {
	case 1:
		return (n == 0 || word >= e.addr[n-1]&looked) && word < own
	case 2:
		return word == own
	case 3:
		for own%2 == 1 { // bits that end an address with ones let any bits of words be there
			word, own = word/2, own/2
		}
		return word/2 == own/2
	}
	return false
}

// hits is how many bytes of an access an entry's range has.
func (e entries) hits(n int, a access) int {
	count := 0
	for i := range a.size {
		if e.has(n, a.at+uint64(i)) {
			count++
		}
	}
	return count
}

// decider is the least entry that is hit; 8: there is none.
func (e entries) decider(a access) int {
	n := 0
	for n < api.PmpEntries && e.hits(n, a) == 0 {
		n++
	}
	return n
}

// lets tells whether an access of a kind that there is may be made, with all its bytes below 2^64.
func (e entries) lets(a access) bool {
	n := e.decider(a)
	if n == api.PmpEntries {
		return a.mode == 3
	}
	if e.hits(n, a) < a.size {
		return false
	}
	s := e.cfg[n]
	read, write, fetch, locked := s%2 == 1, s/2%2 == 1, s/4%2 == 1, s >= 128
	return a.mode == 3 && !locked || [4]bool{fetch, read, write, read && write}[a.kind]
}

// wrote is the setting behind a write of a byte.
func wrote(old, b uint8) uint8 {
	if old >= 128 || b%4 == 2 {
		return old
	}
	return b%32 + b/128*128
}

// stuck tells whether the address of an entry can't be written.
func (e entries) stuck(n int) bool {
	return e.cfg[n] >= 128 || n < 7 && e.cfg[n+1] >= 128 && e.cfg[n+1]/8%4 == 1
}
