package picture

import "kotatsu/api"

// The bytes of a sprite.
const (
	spriteY = iota
	spriteTile
	attributes
	spriteX
	oneSprite
)

const (
	spriteBytes = 256
	selectable  = 8 // in one line
	low         = 8 // heights
	high        = 16
)

// Bits of a sprite's attributes.
const (
	attributeBits = 0xe3
	spritePalette = 0x03
	behind        = 0x20
	turnedAcross  = 0x40
	turnedDown    = 0x80
)

// sprite is one that was selected, as it was then.
type sprite struct {
	first      bool // of all
	attributes byte
	x          int
	strip      strip
}

func (p *Picture) height() int {
	if p.control&tall != 0 {
		return high
	}
	return low
}

// selectSprites selects the sprites of the next line.
func (p *Picture) selectSprites() {
	p.count = 0
	if p.line >= api.High || !p.renders() {
		return
	}
	for at := 0; at < spriteBytes; at += oneSprite {
		row := p.line - int(p.sprites[at+spriteY])
		if row < 0 || row >= p.height() {
			continue
		}
		if p.count == selectable {
			p.overflow = true
			return
		}
		p.selected[p.count] = p.readSprite(at, row)
		p.count++
	}
}

func (p *Picture) readSprite(at, row int) sprite {
	s := sprite{first: at == 0, attributes: p.sprites[at+attributes], x: int(p.sprites[at+spriteX])}
	if s.attributes&turnedDown != 0 {
		row = p.height() - 1 - row
	}
	s.strip = p.memory.strip(p.spriteAddress(p.sprites[at+spriteTile], row))
	if s.attributes&turnedAcross != 0 {
		s.strip = s.strip.turned()
	}
	return s
}

// spriteAddress returns where the pattern of a sprite's row is.
func (p *Picture) spriteAddress(tile byte, row int) uint16 {
	if p.height() == low {
		return patternAddress(tile, row, p.control&upperSprite != 0)
	}
	upper := tile&1 != 0
	tile &^= 1
	// The lower half of a high sprite is the tile that follows.
	if row >= low {
		tile++
		row -= low
	}
	return patternAddress(tile, row, upper)
}

// spriteDot returns the first of the selected sprites that has a dot at x, and the dot's number.
func (p *Picture) spriteDot(x int) (sprite, byte) {
	if !p.shows(sprites, leftSprites, x) {
		return sprite{}, 0
	}
	for _, s := range p.selected[:p.count] {
		dot := x - s.x
		if dot < 0 || dot >= stripDots {
			continue
		}
		if n := s.strip.number(dot); n != 0 {
			return s, n
		}
	}
	return sprite{}, 0
}
