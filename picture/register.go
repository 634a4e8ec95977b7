package picture

// The registers, of which eight are repeated.
const (
	control = iota
	mask
	status
	spriteAddress
	spriteByte
	offset
	address
	data
	registers
)

// Bits of the control register.
const (
	steps       = 0x04 // far, to the line below
	upperSprite = 0x08 // patterns
	upperTile   = 0x10 // patterns
	tall        = 0x20
	requests    = 0x80
)

// Bits of the mask register.
const (
	grey        = 0x01
	leftTiles   = 0x02 // are shown, too
	leftSprites = 0x04
	tiles       = 0x08
	sprites     = 0x10
)

// Bits of the status register.
const (
	hasOverflow = 0x20
	hasHit      = 0x40
	hasBlank    = 0x80
	statusBus   = 0x1f
)

const (
	colourBus = 0xc0 // bits that a colour does not have
	underTop  = 0x1000
)

// Put writes a register.
func (p *Picture) Put(reg, b byte) {
	if p == nil {
		return
	}
	p.bus = b
	switch reg % registers {
	case control:
		p.control = b
		p.scroll = p.scroll.Control(b)
	case mask:
		p.mask = b
	case spriteAddress:
		p.at = b
	case spriteByte:
		p.sprites[p.at] = b
		p.at++
	case offset:
		p.scroll = p.scroll.Offset(b)
	case address:
		p.scroll = p.scroll.Address(b)
	case data:
		p.memory.put(p.scroll.V, b)
		p.step()
	}
}

// Get reads a register; one that cannot be read leaves what the bus had.
func (p *Picture) Get(reg byte) byte {
	if p == nil {
		return 0
	}
	switch reg % registers {
	case status:
		p.bus = p.look()
	case spriteByte:
		p.bus = p.spriteByte()
	case data:
		p.bus = p.read()
		p.step()
	}
	return p.bus
}

func (p *Picture) step() {
	p.scroll = p.scroll.Step(p.control&steps != 0)
}

// look returns the status register, and does what a look at it does.
func (p *Picture) look() byte {
	b := p.bus & statusBus
	if p.overflow {
		b |= hasOverflow
	}
	if p.hit {
		b |= hasHit
	}
	if p.blank {
		b |= hasBlank
	}
	p.blank = false
	p.scroll = p.scroll.Look()
	return b
}

func (p *Picture) spriteByte() byte {
	b := p.sprites[p.at]
	if p.at%oneSprite == attributes {
		b &= attributeBits
	}
	return b
}

// read returns the byte of the read before, but a colour at once; behind the colours are nametables.
func (p *Picture) read() byte {
	at := p.scroll.V & addresses
	if at < palette {
		b := p.buffer
		p.buffer = p.memory.get(at)
		return b
	}
	p.buffer = p.memory.get(at - underTop)
	return p.memory.get(at) | p.bus&colourBus
}
