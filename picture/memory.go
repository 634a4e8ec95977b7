package picture

import "kotatsu/loopy"

// Where the memory has its parts.
const (
	addresses = 0x3fff // bits of an address that count
	names     = 0x2000
	palette   = 0x3f00
)

const (
	nameBytes  = 0x0800
	colours    = 32
	colourBits = 0x3f
)

// memory is what the picture unit's addresses reach.
type memory struct {
	patterns [names]byte
	names    [nameBytes]byte
	colours  [colours]byte
	upright  bool
}

func (m *memory) get(at uint16) byte {
	at &= addresses
	switch {
	case at < names:
		return m.patterns[at]
	case at < palette:
		return m.names[loopy.Mirror(at, m.upright)]
	}
	return m.colours[loopy.Colour(at)]
}

func (m *memory) put(at uint16, b byte) {
	at &= addresses
	switch {
	case at < names:
		m.patterns[at] = b
	case at < palette:
		m.names[loopy.Mirror(at, m.upright)] = b
	default:
		m.colours[loopy.Colour(at)] = b & colourBits
	}
}
