package walk

import "tandem/api"

// The fields of Satp: the scheme, and the number of the first table's page.
const (
	schemeAt = 60
	sv39     = 8
)

// highestBit is that of a virtual address of which all bits ahead are copies.
const highestBit = 38

// translates tells whether there is a scheme by which addresses are.
func translates(c *api.Csrs) bool {
	return c.Satp>>schemeAt == sv39
}

// firstTable is the number of the page of the table at which a walk begins.
func firstTable(c *api.Csrs) uint64 {
	return c.Satp & pageBits
}

// isVirtual tells whether an address is one that can be translated.
func isVirtual(at uint64) bool {
	ahead := int64(at) >> highestBit
	return ahead == 0 || ahead == -1
}
