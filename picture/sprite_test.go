package picture_test

import (
	"testing"

	"kotatsu/picture"
)

// solid sets the tile 1: all its dots have the number 3, and 2 in the upper table.
func solid(p *picture.Picture) {
	for i := range uint16(8) {
		p.Poke(0x10+i, 0xff)
		p.Poke(0x18+i, 0xff)
		p.Poke(0x1018+i, 0xff)
	}
}

// colourful gives each color of the palette its own number.
func colourful(p *picture.Picture) {
	for i := range uint16(32) {
		p.Poke(0x3f00+i, byte(i))
	}
	for i := range uint16(8) {
		p.Poke(0x3f00+4*i, 0)
	}
}

// stage returns a picture unit without sprites, in which all is shown, and tile 0 is empty.
func stage() *picture.Picture {
	p := picture.New()
	solid(p)
	colourful(p)
	away(p)
	p.Put(mask, 0x1e)
	return p
}

// whole goes on until the second picture is complete.
func whole(p *picture.Picture) {
	past(p, 241, 1)
	to(p, 0, 0)
	past(p, 241, 1)
}

// lines returns in which lines a pixel is not of the color 0.
func lines(p *picture.Picture) []int {
	var l []int
	for y := range 240 {
		for _, b := range p.Row(y) {
			if b != 0 {
				l = append(l, y)
				break
			}
		}
	}
	return l
}

// TestP15_4SelectY: a sprite is shown from the line below its Y, in 8 lines or 16; never in line 0.
func TestP15_4SelectY(t *testing.T) {
	for _, height := range []int{8, 16} {
		for _, y := range []int{0, 1, 7, 8, 100, 127, 128, 200, 224, 231, 232, 237, 238, 239, 240, 248, 254, 255} {
			p := stage()
			for i := range uint16(32) {
				p.Poke(0x20+i, 0xff)
			}
			p.Put(control, byte(height&16*2))
			setSprite(p, 9, byte(y), 2, 0, 50)
			whole(p)
			got := lines(p)
			want := max(0, min(height, 239-y))
			if len(got) != want || want > 0 && (got[0] != y+1 || got[want-1] != y+want) {
				t.Errorf("%d of %d: %v", y, height, got)
			}
			if flags(p)&0x60 != 0 {
				t.Errorf("%d of %d: %02x", y, height, flags(p))
			}
		}
	}
}

// TestP15_4NotShown: in a line that is not rendered no sprites are selected for the next one.
func TestP15_4NotShown(t *testing.T) {
	for _, c := range []struct {
		mask byte
		want bool
	}{{0, false}, {0xe7, false}, {8, true}, {0x10, true}, {0x18, true}} {
		p := stage()
		setSprite(p, 3, 99, 1, 0, 50)
		to(p, 100, 257)
		p.Put(mask, c.mask)
		p.Clock()
		p.Put(mask, 0x1e)
		to(p, 102, 0)
		if got := p.Row(101)[50] != 0; got != c.want {
			t.Errorf("%02x: %t", c.mask, got)
		}
	}
}

// TestP15_4OnlyThen: rendering counts at the dot 257 alone.
func TestP15_4OnlyThen(t *testing.T) {
	p := stage()
	setSprite(p, 3, 99, 1, 0, 50)
	p.Put(mask, 0)
	to(p, 100, 257)
	p.Put(mask, 0x10)
	p.Clock()
	p.Put(mask, 0)
	to(p, 101, 1)
	p.Put(mask, 0x10)
	to(p, 102, 0)
	if p.Row(101)[50] != 0x13 || p.Row(101)[57] != 0x13 || p.Row(101)[58] != 0 || p.Row(100)[50] != 0 {
		t.Error(p.Row(101)[48:60])
	}
}

// TestP15_4Eight: the first eight of a line are shown, and a ninth one is told.
func TestP15_4Eight(t *testing.T) {
	for n := range 20 {
		p := stage()
		for i := range n {
			setSprite(p, i*3, 100, 1, 0, byte(10*i+8))
		}
		to(p, 100, 257)
		if flags(p) != 0 {
			t.Errorf("%d: %02x early", n, flags(p))
		}
		p.Clock()
		if got := flags(p)&0x20 != 0; got != (n > 8) {
			t.Errorf("%d: %02x", n, flags(p))
		}
		to(p, 102, 0)
		for i := range 20 {
			if got := p.Row(101)[10*i+8] != 0; got != (i < n && i < 8) {
				t.Errorf("%d: sprite %d: %t", n, i, got)
			}
		}
	}
}

// TestP15_4Last: sprite 63 is among those that are selected and counted.
func TestP15_4Last(t *testing.T) {
	p := stage()
	setSprite(p, 63, 100, 1, 0, 40)
	to(p, 102, 0)
	if p.Row(101)[40] == 0 || flags(p) != 0 {
		t.Error("not selected")
	}
	for i := range 8 {
		setSprite(p, 55+i, 150, 1, 0, 60)
	}
	setSprite(p, 63, 150, 1, 0, 40)
	to(p, 152, 0)
	if p.Row(151)[40] != 0 || flags(p)&0x20 == 0 {
		t.Error("not counted")
	}
}

// TestP15_4OverflowLines: a ninth sprite is told in lines 0 to 239, and in no other.
func TestP15_4OverflowLines(t *testing.T) {
	for _, c := range []struct {
		y    byte
		want bool
	}{{0, true}, {231, true}, {232, true}, {239, true}, {240, false}, {241, false}, {253, false}, {255, false}} {
		p := stage()
		for i := range 9 {
			setSprite(p, i, c.y, 1, 0, 0)
		}
		past(p, 240, 257)
		if got := flags(p)&0x20 != 0; got != c.want {
			t.Errorf("%d: %t", c.y, got)
		}
		p.Put(mask, 0x1e)
		to(p, 261, 1)
		if got := flags(p)&0x20 != 0; got != c.want {
			t.Errorf("%d: %t at the end", c.y, got)
		}
		to(p, 0, 0)
		if got := flags(p)&0x20 != 0; got {
			t.Errorf("%d: in the next picture", c.y)
		}
	}
}

// TestP15_4OverflowShown: without rendering none is told.
func TestP15_4OverflowShown(t *testing.T) {
	for _, b := range []byte{0, 0xe7} {
		p := stage()
		p.Put(mask, b)
		for i := range 64 {
			setSprite(p, i, 100, 1, 0, 0)
		}
		past(p, 241, 1)
		if flags(p) != 0x80 {
			t.Errorf("%02x: %02x", b, flags(p))
		}
	}
}

// TestP15_4ThenRead: the bytes of a sprite are those that it had when it was selected.
func TestP15_4ThenRead(t *testing.T) {
	p := stage()
	setSprite(p, 3, 100, 1, 1, 50)
	past(p, 100, 257)
	before := p.Copy()
	setSprite(p, 3, 0, 0, 0x63, 90)
	for i := range uint16(0x2000) {
		p.Poke(i, 0)
	}
	p.Put(control, 0x28)
	to(p, 102, 0)
	to(before, 102, 0)
	if row := p.Row(101); string(row) != string(before.Row(101)) || row[50] != 0x17 || row[57] != 0x17 || row[90] != 0 {
		t.Error(row[48:60])
	}
	// What is written just before it counts.
	p = stage()
	setSprite(p, 3, 100, 1, 1, 50)
	to(p, 100, 257)
	setSprite(p, 3, 100, 1, 2, 60)
	to(p, 102, 0)
	if row := p.Row(101); row[60] != 0x1b || row[50] != 0 {
		t.Error(row[48:70])
	}
}

// rows gives each byte of the patterns its own value, other than 0.
func rows(p *picture.Picture) {
	for i := range uint16(0x2000) {
		p.Poke(i, byte(i*7+i>>4*31+i>>8*57))
	}
}

// numbers returns the numbers of eight dots, of two bytes.
func numbers(lower, upper byte, turned bool) []byte {
	l := make([]byte, 8)
	for i := range l {
		place := 7 - i
		if turned {
			place = i
		}
		l[i] = lower>>place&1 + upper>>place&1*2
	}
	return l
}

// pattern returns the address that the document gives for a sprite's row.
func pattern(register byte, tile, attributes byte, row int) uint16 {
	height := 8
	if register&0x20 != 0 {
		height = 16
	}
	if attributes&0x80 != 0 {
		row = height - 1 - row
	}
	if height == 8 {
		at := 16*int(tile) + row
		if register&8 != 0 {
			at += 0x1000
		}
		return uint16(at)
	}
	at := 16*int(tile&0xfe) + row
	if tile&1 != 0 {
		at += 0x1000
	}
	if row >= 8 {
		at += 8
	}
	return uint16(at)
}

// TestP15_4Bytes: where the bytes of a row are, for all control registers and attributes, and all tiles.
func TestP15_4Bytes(t *testing.T) {
	for c := range 64 {
		for _, attributes := range []byte{0, 0x40, 0x80, 0xc0, 0x1c, 0x9f} {
			p := stage()
			rows(p)
			p.Put(control, byte(c*4))
			p.Put(mask, 0x14)
			tile := byte(c*29) + attributes
			setSprite(p, 20, 50, tile, attributes, 100)
			setSprite(p, 21, 50, tile^1, attributes^0x80, 120)
			to(p, 80, 0)
			for row := range 16 {
				want := numbers(0, 0, false)
				other := want
				if row < 8 || c&8 != 0 {
					at := pattern(byte(c*4), tile, attributes, row)
					want = numbers(p.Peek(at), p.Peek(at+8), attributes&0x40 != 0)
					at = pattern(byte(c*4), tile^1, attributes^0x80, row)
					other = numbers(p.Peek(at), p.Peek(at+8), attributes&0x40 != 0)
				}
				line := p.Row(51 + row)
				for i := range 8 {
					if line[100+i]&3 != want[i] || line[120+i]&3 != other[i] {
						t.Fatalf("%02x %02x %02x: row %d dot %d: %02x %02x", c*4, tile, attributes, row, i, line[100+i], line[120+i])
					}
				}
			}
		}
	}
}

// TestP15_4AllTiles: the first and the last row of all tiles.
func TestP15_4AllTiles(t *testing.T) {
	for _, c := range []byte{0, 8, 0x20, 0x28, 0xd7} {
		for tile := range 256 {
			p := stage()
			rows(p)
			p.Put(control, c)
			p.Put(mask, 0x14)
			setSprite(p, 0, 0, byte(tile), 0, 100)
			to(p, 20, 0)
			height := 8
			if c&0x20 != 0 {
				height = 16
			}
			for _, row := range []int{0, 1, 7, 8, 15} {
				if row >= height {
					continue
				}
				at := pattern(c, byte(tile), 0, row)
				if got := p.Row(1 + row)[100:108]; string(masked(got)) != string(numbers(p.Peek(at), p.Peek(at+8), false)) {
					t.Fatalf("%02x %02x %d: %v", c, tile, row, got)
				}
			}
		}
	}
}

// masked returns the numbers of colors.
func masked(l []byte) []byte {
	for i := range l {
		l[i] &= 3
	}
	return l
}

// TestP15_5SpriteX: which eight dots a sprite has, also where the line ends.
func TestP15_5SpriteX(t *testing.T) {
	for sx := range 256 {
		p := stage()
		setSprite(p, 5, 100, 1, 0, byte(sx))
		to(p, 102, 0)
		for x, b := range p.Row(101) {
			want := byte(0)
			if x >= sx && x < sx+8 {
				want = 0x13
			}
			if b != want {
				t.Fatalf("%d: %d: %02x", sx, x, b)
			}
		}
	}
}

// TestP15_5Order: of the sprites at a dot, the first with a number counts, whatever is behind tiles.
func TestP15_5Order(t *testing.T) {
	p := stage()
	p.Poke(0x20, 0xf0) // the tile 2 has its left half
	setSprite(p, 10, 100, 2, 0, 50)
	setSprite(p, 11, 100, 1, 1, 48)
	setSprite(p, 12, 100, 1, 2, 52)
	to(p, 102, 0)
	want := []byte{0, 0x17, 0x17, 0x11, 0x11, 0x11, 0x11, 0x17, 0x17, 0x1b, 0x1b, 0x1b, 0x1b, 0}
	if got := p.Row(101)[47:61]; string(got) != string(want) {
		t.Error(got)
	}
	// A sprite behind the tiles hides those that come later, also where it is hidden itself.
	p = stage()
	p.Poke(0x2000+12*32+6, 1)
	setSprite(p, 10, 95, 1, 0x20, 48)
	setSprite(p, 11, 95, 1, 1, 52)
	to(p, 98, 0)
	want = []byte{0, 3, 3, 3, 3, 3, 3, 3, 3, 0x17, 0x17, 0x17, 0x17, 0}
	if got := p.Row(97)[47:61]; string(got) != string(want) {
		t.Error(got)
	}
}
