package loopy

// Where things are in the picture unit's memory.
const (
	nametables = 0x2000
	shades     = 0x23c0 // of the first nametable
	oneTable   = 0x0400 // from one nametable, and its shades, to the next
	inTable    = oneTable - 1
)

// A byte of shades holds two bits for each quarter of a square of four columns and four lines.
const (
	squaresBeside = 8
	square        = 4 // columns, and lines
	right         = 2 // how far the bits of the right quarters are shifted
	below         = 4 // how far those of the quarters below are shifted besides
)

const (
	colours = 0x1f
	sprites = 0x10 // the bit of the colours of sprites
	ofFour  = 0x03 // which of the four colours of a palette
)

// Name returns the address of the tile's number.
func (s Scroll) Name() uint16 {
	return nametables + s.V&(column|line|across|down)
}

// Shade returns the address of the byte with the tile's palette, and where its two bits begin.
func (s Scroll) Shade() (uint16, byte) {
	x := s.V & column
	y := s.V & line / oneLine
	at := shades + s.V&(across|down) + y/square*squaresBeside + x/square
	var bits byte
	if x&(square/2) != 0 {
		bits += right
	}
	if y&(square/2) != 0 {
		bits += below
	}
	return at, bits
}

// Row returns the row within the tile.
func (s Scroll) Row() byte {
	return byte(s.V & row / oneRow)
}

// Mirror returns the offset in the memory of two nametables at which an address of four is found.
func Mirror(at uint16, upright bool) uint16 {
	second := uint16(down)
	if upright {
		second = across
	}
	offset := at & inTable
	if at&second != 0 {
		offset += oneTable
	}
	return offset
}

// Colour returns which colour is at an address of the palette.
func Colour(at uint16) byte {
	c := byte(at & colours)
	// The first colours of the sprites' palettes are those of the tiles' palettes.
	if c&ofFour == 0 {
		c &^= sprites
	}
	return c
}
