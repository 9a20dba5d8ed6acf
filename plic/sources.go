package plic

import "tandem/api"

// contexts is how many there are.
const contexts = 2

// none is the number that stands for no source.
const none = 0

// highest is the greatest priority and threshold, all of whose bits are 1.
const highest = 7

// every has the bits of all sources.
const every = 1<<(api.Sources+1) - 2

// The states of a source: it is never both waiting and in service.
const (
	quiet = iota
	waits
	served
)

// A source is what is known of one of them.
type source struct {
	up       bool
	state    int
	priority uint64
}

// A context is what it lets through: sources by their bits, and priorities above the threshold.
type context struct {
	enabled, threshold uint64
}

// comeIn lets a source wait, if its line is up and nothing keeps it from that.
func (s *source) comeIn() {
	if s.up && s.state == quiet {
		s.state = waits
	}
}

// takes tells whether a source is enabled.
func (c context) takes(n int) bool {
	return c.enabled>>n&1 == 1
}

// waiting has the bits of the sources that wait.
func (p *Plic) waiting() uint64 {
	bits := uint64(0)
	for n, s := range p.sources {
		if s.state == waits {
			bits |= 1 << n
		}
	}
	return bits
}

// best is the source that a context is to be told of; none, if there is none. It goes down from the highest priority, and up from the least source, so that the first one that fits is it.
func (p *Plic) best(c int) int {
	found := none
search:
	for rank := uint64(highest); rank > 0; rank-- {
		for n, s := range p.sources {
			if s.priority == rank && s.state == waits && p.contexts[c].takes(n) {
				found = n
				break search
			}
		}
	}
	return found
}

// claim takes a context's best into service, and tells it.
func (p *Plic) claim(c int) uint64 {
	n := p.best(c)
	if n != none {
		p.sources[n].state = served
	}
	return uint64(n)
}

// finish lets a source leave service, if it is one that this context may let go. Its line may still be up: then it waits anew.
func (p *Plic) finish(c int, n uint64) {
	if n > api.Sources {
		return
	}
	s := &p.sources[n]
	if s.state == served && p.contexts[c].takes(int(n)) {
		s.state = quiet
		s.comeIn()
	}
}
