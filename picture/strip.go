package picture

import "math/bits"

const (
	stripDots = 8
	oneTile   = 16     // bytes
	upperHalf = 8      // of a tile's bytes
	patterns  = 0x1000 // in each of two tables
)

// strip is a row of a tile: each dot has a bit in both bytes, the first the highest.
type strip struct{ lower, upper byte }

// number returns which of a palette's colours a dot has.
func (s strip) number(dot int) byte {
	shift := stripDots - 1 - dot
	return s.upper>>shift&1<<1 | s.lower>>shift&1
}

// turned returns the strip from its last dot to its first.
func (s strip) turned() strip {
	return strip{bits.Reverse8(s.lower), bits.Reverse8(s.upper)}
}

// patternAddress returns where a row of a tile is, in the lower or the upper table.
func patternAddress(tile byte, row int, upper bool) uint16 {
	at := uint16(tile)*oneTile + uint16(row)
	if upper {
		at += patterns
	}
	return at
}

// strip returns the one at an address.
func (m *memory) strip(at uint16) strip {
	return strip{m.get(at), m.get(at + upperHalf)}
}
