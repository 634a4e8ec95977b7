package picture_test

import (
	"testing"

	"kotatsu/picture"
)

// tiled returns a picture unit whose nametables, shades and patterns are all of other bytes.
func tiled(upright bool) *picture.Picture {
	p := picture.New()
	p.Upright(upright)
	for i := range uint16(0x2000) {
		p.Poke(i, byte(i*73+i>>3*11+i>>7*29))
	}
	for i := range uint16(0x1000) {
		p.Poke(0x2000+i, byte(i*41+i>>5*13+i>>9))
	}
	colourful(p)
	away(p)
	return p
}

// tileColour returns the color of a place of the four nametables of 512 by 480 dots.
func tileColour(p *picture.Picture, x, y int, table uint16) byte {
	x, y = x%512, y%480
	name := uint16(0x2000 + x/256*0x400 + y/240*0x800)
	x, y = x%256, y%240
	tile := p.Peek(name + uint16(y/8*32+x/8))
	at := table + uint16(tile)*16 + uint16(y%8)
	n := p.Peek(at)>>(7-x%8)&1 + p.Peek(at+8)>>(7-x%8)&1*2
	if n == 0 {
		return 0
	}
	b := p.Peek(name + 0x3c0 + uint16(y/32*8+x/32))
	return b>>(x/16%2*2+y/16%2*4)&3*4 + n
}

// TestP15_5Tiles: a whole picture of tiles, from several places, in both arrangements and of both tables.
func TestP15_5Tiles(t *testing.T) {
	for _, c := range []struct {
		left, top int
		table     uint16
		upright   bool
	}{
		{0, 0, 0, false}, {0, 0, 0x1000, true}, {5, 0, 0, true}, {256, 0, 0, true}, {0, 240, 0, false},
		{255, 239, 0x1000, true}, {259, 243, 0, false}, {511, 479, 0x1000, false}, {132, 77, 0, true}, {7, 8, 0, false},
	} {
		p := tiled(c.upright)
		p.Put(control, byte(c.left/256+c.top/240*2)|byte(c.table>>8))
		put(p, offset, byte(c.left%256), byte(c.top%240))
		p.Put(mask, 0x0a)
		to(p, 240, 0)
		to(p, 0, 0)
		to(p, 240, 0)
		for y := range 240 {
			for x, b := range p.Row(y) {
				if want := tileColour(p, x+c.left, y+c.top, c.table); b != want {
					t.Fatalf("%v: %d %d: %02x, want %02x", c, x, y, b, want)
				}
			}
		}
	}
}

// TestP15_5FirstPicture: without a Top before it, the first picture begins where V is.
func TestP15_5FirstPicture(t *testing.T) {
	p := tiled(true)
	at(p, 0x2c67)
	p.Put(mask, 0x0a)
	to(p, 1, 0)
	for x, b := range p.Row(0) {
		if want := tileColour(p, x+256+7*8, 240+3*8+2, 0); b != want {
			t.Fatalf("%d: %02x, want %02x", x, b, want)
		}
	}
}

// TestP15_5Left: what is shown at the left, and beside it, for all masks.
func TestP15_5Left(t *testing.T) {
	for b := range 256 {
		p := stage()
		for i := range uint16(0x3c0) {
			p.Poke(0x2000+i, 1)
		}
		p.Poke(0x3f00, 0x2c)
		p.Poke(0x3f03, 0x16)
		p.Poke(0x3f13, 0x38)
		for i := range 8 {
			setSprite(p, i+5, 100, 1, 0, byte(4*i))
		}
		p.Put(mask, byte(b))
		to(p, 102, 0)
		for x, got := range p.Row(101) {
			want := byte(0x2c)
			if b&8 != 0 && (x >= 8 || b&2 != 0) {
				want = 0x16
			}
			if b&0x10 != 0 && (x >= 8 || b&4 != 0) && x < 4*7+8 {
				want = 0x38
			}
			if b&1 != 0 {
				want &= 0x30
			}
			if got != want {
				t.Fatalf("%02x: %d: %02x, want %02x", b, x, got, want)
			}
		}
	}
}

// TestP15_5Grey: grey keeps the bits 30 of all colors.
func TestP15_5Grey(t *testing.T) {
	for b := range 256 {
		p := picture.New()
		p.Poke(0x3f00, byte(b))
		p.Clock()
		p.Clock()
		p.Put(mask, 1)
		p.Clock()
		p.Put(mask, 0xe6)
		p.Clock()
		if row := p.Row(0); row[0] != byte(b%64) || row[1] != byte(b)&0x30 || row[2] != byte(b%64) {
			t.Fatalf("%02x: %v", b, row[:3])
		}
	}
}

// TestP15_5Result: which of a tile's and a sprite's dots is shown, for all their numbers, palettes and places.
func TestP15_5Result(t *testing.T) {
	for tile := range byte(4) {
		for number := range byte(4) {
			for attributes := range 256 {
				if attributes&0xc0 != 0 && attributes%7 != 0 {
					continue
				}
				p := stage()
				for i := range uint16(8) {
					p.Poke(0x20+i, tile&1*0xff)
					p.Poke(0x28+i, tile>>1*0xff)
					p.Poke(0x1010+i, number&1*0xff)
					p.Poke(0x1018+i, number>>1*0xff)
				}
				of := byte(attributes>>2) & 3
				p.Poke(0x2000, 2)
				p.Poke(0x2001, 2)
				p.Poke(0x23c0, of)
				setSprite(p, 4, 0, 1, byte(attributes), 4)
				p.Put(control, 8)
				to(p, 2, 0)
				want := byte(0)
				if tile != 0 {
					want = 4*of + tile
				}
				if number != 0 && (tile == 0 || attributes&0x20 == 0) {
					want = 0x10 + 4*byte(attributes&3) + number
				}
				if got := p.Row(1)[6]; got != want {
					t.Fatalf("tile %d sprite %d attributes %02x: %02x, want %02x", tile, number, attributes, got, want)
				}
				if flags(p) != 0 {
					t.Fatal("hit by another sprite than 0")
				}
			}
		}
	}
}

// hitDot returns the dot of line 101 behind which the hit flag is set first, or -1.
func hitDot(p *picture.Picture) int {
	to(p, 101, 0)
	if flags(p)&0x40 != 0 {
		return -2
	}
	for dot := range 341 {
		p.Clock()
		if flags(p)&0x40 != 0 {
			return dot
		}
	}
	return -1
}

// before returns a picture unit with tiles everywhere and sprite 0 in line 101.
func before(attributes, x byte) *picture.Picture {
	p := stage()
	for i := range uint16(0x3c0) {
		p.Poke(0x2000+i, 1)
	}
	setSprite(p, 0, 100, 1, attributes, x)
	return p
}

// TestP15_5Hit: the dot that sets the hit flag, for each place of the sprite.
func TestP15_5Hit(t *testing.T) {
	for x := range 256 {
		for _, attributes := range []byte{0, 0x20, 0x40, 0xe3} {
			want := x + 1
			if x == 255 {
				want = -1
			}
			if got := hitDot(before(attributes, byte(x))); got != want {
				t.Fatalf("%d %02x: %d, want %d", x, attributes, got, want)
			}
		}
	}
}

// TestP15_5HitMask: both must be shown where they meet.
func TestP15_5HitMask(t *testing.T) {
	for b := range 32 {
		for _, x := range []int{0, 1, 3, 7, 8, 30} {
			p := before(0, byte(x))
			p.Put(mask, byte(b))
			want := -1
			if b&0x18 == 0x18 {
				want = x + 1
				if b&6 != 6 {
					want = max(x, 8) + 1
				}
			}
			// A sprite of only eight dots, from 0 on, is all at the left.
			if x == 0 && b&6 != 6 {
				want = -1
			}
			if got := hitDot(p); got != want {
				t.Fatalf("%02x %d: %d, want %d", b, x, got, want)
			}
		}
	}
}

// TestP15_5HitDots: only where both have a dot.
func TestP15_5HitDots(t *testing.T) {
	p := before(0, 48)
	for i := range uint16(0x3c0) {
		p.Poke(0x2000+i, 3)
	}
	for i := range uint16(8) {
		p.Poke(0x38+i, 0x04) // the tile 3
		p.Poke(0x20+i, 0xf9) // the tile 2
	}
	c := p.Copy()
	setSprite(c, 0, 100, 2, 0, 48)
	if got := hitDot(c); got != -1 {
		t.Error(got)
	}
	if got := hitDot(p); got != 48+5+1 {
		t.Error(got)
	}
}

// TestP15_5HitFirst: sprite 0 hits, and no other one, first of its line or not.
func TestP15_5HitFirst(t *testing.T) {
	p := before(0, 48)
	setSprite(p, 0, 0xff, 1, 0, 48)
	setSprite(p, 1, 100, 1, 0, 48)
	if got := hitDot(p); got != -1 {
		t.Error(got)
	}
	p = before(0, 60)
	for i := range 7 {
		setSprite(p, i+1, 100, 1, 0, 40)
	}
	if got := hitDot(p); got != 61 {
		t.Error(got)
	}
	// Sprite 0 without a dot where another one has: no hit.
	p = before(0, 48)
	setSprite(p, 0, 100, 0, 0, 48)
	setSprite(p, 1, 100, 1, 0, 48)
	if got := hitDot(p); got != -1 {
		t.Error(got)
	}
}

// TestP15_5HitStays: a hit in one picture stays where none follows.
func TestP15_5HitStays(t *testing.T) {
	p := before(0, 48)
	to(p, 130, 0)
	if flags(p) != 0x40 || p.Get(status)&0x40 == 0 || p.Get(status)&0x40 == 0 {
		t.Errorf("%02x", flags(p))
	}
}

// TestP15_5Palette: a color is looked up through the palette's own addresses.
func TestP15_5Palette(t *testing.T) {
	p := before(0, 48)
	p.Poke(0x3f13, 0x21)
	p.Poke(0x3f03, 0x31)
	p.Poke(0x3f10, 0x0d)
	to(p, 102, 0)
	if row := p.Row(101); row[48] != 0x21 || row[47] != 0x31 {
		t.Error(row[40:60])
	}
	p.Put(mask, 0)
	to(p, 103, 0)
	if row := p.Row(102); row[48] != 0x0d || row[0] != 0x0d || row[255] != 0x0d {
		t.Error(row[40:60])
	}
}

// TestP15_5Now: tiles are read when their dot is, not ahead.
func TestP15_5Now(t *testing.T) {
	p := stage()
	to(p, 8, 21)
	p.Poke(0x2000+32+2, 1)
	p.Clock()
	p.Put(mask, 0)
	p.Clock()
	p.Put(mask, 0x1e)
	p.Clock()
	p.Put(control, 0x10)
	p.Clock()
	p.Poke(0x2000+32+3, 1)
	p.Poke(0x23c0, 0x03)
	p.Clock()
	if got := p.Row(8)[19:26]; string(got) != string([]byte{0, 3, 0, 3, 2, 2, 0}) {
		t.Error(got)
	}
}
