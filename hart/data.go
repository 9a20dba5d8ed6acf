package hart

import (
	"tandem/alu"
	"tandem/api"
)

// data is the physical address of the instruction's data.
func (s *step) data(kind int, at uint64) uint64 {
	if at%uint64(s.inst.Size) != 0 {
		cause := uint64(api.WriteMisaligned)
		if kind == api.Read {
			cause = api.ReadMisaligned
		}
		giveUp(cause, at)
	}
	return s.reach(kind, at, s.inst.Size)
}

// plainData is that of data that must be the RAM's, or else there is a fault.
func (s *step) plainData(kind int, at, cause uint64) uint64 {
	place := s.data(kind, at)
	if !s.bus.Plain(place, s.inst.Size) {
		giveUp(cause, at)
	}
	return place
}

// beside is the address that lies by the immediate behind Rs1's number.
func (s *step) beside() uint64 {
	return s.first() + uint64(s.inst.Imm)
}

// read reads the data.
func (s *step) read(kind int, place uint64) uint64 {
	size := s.inst.Size
	s.record.Mem, s.record.Addr, s.record.Size = kind, place, size
	v, _ := s.bus.Read(kind, place, size)
	return v
}

// write writes the data: of a number the lowest bytes.
func (s *step) write(kind int, place, v uint64) {
	size := s.inst.Size
	s.record.Mem, s.record.Addr, s.record.Size = kind, place, size
	s.record.Data, _ = alu.Extend(v, size, true)
	s.bus.Write(place, size, v)
}

func (s *step) load() {
	v := s.read(api.Read, s.data(api.Read, s.beside()))
	v, _ = alu.Extend(v, s.inst.Size, s.inst.Unsigned)
	s.set(v)
}

func (s *step) store(v uint64) {
	s.write(api.Write, s.data(api.Write, s.beside()), v)
}

// reserve does lr.
func (s *step) reserve() {
	place := s.plainData(api.Read, s.first(), api.ReadFault)
	s.setSigned(s.read(api.Read, place), s.inst.Size)
	s.now.Reserved, s.now.Address, s.now.Size = true, place, s.inst.Size
}

// storeReserved does sc.
func (s *step) storeReserved() {
	place := s.plainData(api.Write, s.first(), api.WriteFault)
	failed := uint64(1)
	if s.now.Reserved && s.now.Address == place && s.now.Size == s.inst.Size {
		s.write(api.Write, place, s.second())
		failed = 0
	}
	s.set(failed)
	s.now.Reserved, s.now.Address, s.now.Size = false, 0, 0
}

// swap does the atomic operations.
func (s *step) swap() {
	place := s.data(api.Atomic, s.first())
	old := s.read(api.Atomic, place)
	v, _ := alu.Atomic(s.inst.Kind, s.inst.Size, old, s.second())
	s.write(api.Atomic, place, v)
	s.setSigned(old, s.inst.Size)
}

// more lays the next bytes of the memory behind a row: eight at once where there are so many. They are fetched, as no device answers that.
func (h *Hart) more(row []byte, at uint64, left int) []byte {
	size := 1
	if left >= 8 && h.bus.Plain(at, 8) {
		size = 8
	}
	v, _ := h.bus.Read(api.Fetch, at, size)
	for range size {
		row = append(row, byte(v))
		v >>= 8
	}
	return row
}
