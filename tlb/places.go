package tlb

// The seed goes on by these.
const (
	factor  = 6364136223846793005
	summand = 1442695040888963407
)

// A place is empty, or has an entry.
type place struct {
	full  bool
	entry Entry
}

// placeFor tells where an entry is to stand; it lets the seed go on, if another entry must go.
func (t *Tlb) placeFor(e Entry) int {
	if p, ok := t.where[nameOf(e)]; ok {
		return p
	}
	for p, h := range t.places {
		if !h.full {
			return p
		}
	}
	t.seed = t.seed*factor + summand
	return int(t.seed >> 61)
}

// lay lets an entry stand at a place, whatever stood there.
func (t *Tlb) lay(p int, e Entry) {
	t.empty(p)
	t.places[p] = place{true, e}
	t.where[nameOf(e)] = p
}

// empty lets the entry of a place go, if it has one.
func (t *Tlb) empty(p int) {
	// The zeros of an empty place are the name of an entry, too, and that one may stand elsewhere.
	if t.places[p].full {
		delete(t.where, nameOf(t.places[p].entry))
	}
	t.places[p] = place{}
}
