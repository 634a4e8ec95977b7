package picture

const (
	left          = 8 // dots that are shown only if the mask register says so
	onePalette    = 4 // colours
	spriteColours = 0x10
	shade         = 0x03 // bits that a tile has of a byte of shades
	greys         = 0x30
	neverHit      = 255 // the last dot of a line
)

// renders reports whether anything is shown.
func (p *Picture) renders() bool {
	return p.mask&(tiles|sprites) != 0
}

// shows reports whether tiles or sprites are shown at x.
func (p *Picture) shows(them, atLeft byte, x int) bool {
	return p.mask&them != 0 && (x >= left || p.mask&atLeft != 0)
}

// tileDot returns the number of the tile's dot at x, and its palette.
func (p *Picture) tileDot(x int) (byte, byte) {
	if !p.shows(tiles, leftTiles, x) {
		return 0, 0
	}
	s, dot := p.scroll, x%stripDots+int(p.scroll.X)
	if dot >= stripDots {
		s, dot = s.Right(), dot-stripDots
	}
	at := patternAddress(p.memory.get(s.Name()), int(s.Row()), p.control&upperTile != 0)
	shades, place := s.Shade()
	return p.memory.strip(at).number(dot), p.memory.get(shades) >> place & shade
}

// colour returns which colour is shown at x, and sets the hit flag.
func (p *Picture) colour(x int) byte {
	tile, of := p.tileDot(x)
	s, number := p.spriteDot(x)
	if s.first && tile != 0 && x != neverHit {
		p.hit = true
	}
	if number != 0 && (tile == 0 || s.attributes&behind == 0) {
		return spriteColours + s.attributes&spritePalette*onePalette + number
	}
	if tile != 0 {
		return of*onePalette + tile
	}
	return 0
}

// draw sets the pixel at x of the line.
func (p *Picture) draw(x int) {
	b := p.memory.get(palette + uint16(p.colour(x)))
	if p.mask&grey != 0 {
		b &= greys
	}
	p.rows[p.line][x] = b
}
