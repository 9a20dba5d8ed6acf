package ram

const pageSize = 4096

// A page is the bytes of one.
type page [pageSize]byte

// A spot tells where a page stands: the address of its first byte.
type spot struct {
	first uint64
}

// find tells an address as its page's spot, and how far behind the page's first byte it lies.
func find(at uint64) (spot, int) {
	far := at % pageSize
	return spot{at - far}, int(far)
}

// get lays what stands from an address on into row, which is of zeros till then; a row may go on from page to page.
func (m *Memory) get(at uint64, row []byte) {
	for len(row) > 0 {
		s, far := find(at)
		n := min(pageSize-far, len(row))
		if p, ok := m.pages[s]; ok {
			copy(row[:n], p[far:])
		}
		row = row[n:]
		at += uint64(n)
	}
}

// put lays row from an address on.
func (m *Memory) put(at uint64, row []byte) {
	for len(row) > 0 {
		s, far := find(at)
		if _, ok := m.pages[s]; !ok {
			m.pages[s] = new(page)
		}
		n := copy(m.pages[s][far:], row)
		row = row[n:]
		at += uint64(n)
	}
}

// within tells whether each page that m was written in is the same one in o.
func (m *Memory) within(o *Memory) bool {
	for s, p := range m.pages {
		if q, ok := o.pages[s]; ok && *p != *q || !ok && *p != (page{}) {
			return false
		}
	}
	return true
}
