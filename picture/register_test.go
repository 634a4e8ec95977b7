package picture_test

import (
	"fmt"
	"math/rand"
	"testing"

	"kotatsu/picture"
)

// where returns which of the document's addresses a write to the data register reaches, as the two arrangements tell it.
func where(p *picture.Picture) int {
	base := marked(p, false)
	other := marked(p, true)
	if base < 0x2000 || base >= 0x3f00 {
		return base
	}
	return base | other
}

// marked returns the least address, of the arrangement, at which a write is seen.
func marked(p *picture.Picture, upright bool) int {
	p = p.Copy()
	p.Upright(upright)
	a := 0
	for _, b := range []byte{0x15, 0x2a} {
		c := p.Copy()
		c.Put(data, b)
		for a = 0; a < 0x4000; a++ {
			if c.Peek(uint16(a)) != p.Peek(uint16(a)) {
				return a
			}
		}
	}
	return a
}

// least returns what where returns for a V.
func least(v uint16) int {
	a := int(v % 0x4000)
	if a >= 0x2000 && a < 0x3f00 {
		return 0x2000 + a%0x1000
	}
	return place(a, false)
}

func TestP15_2Bus(t *testing.T) {
	for reg := range 256 {
		for _, b := range []byte{0, 1, 0x1f, 0x20, 0xe3, 0xff} {
			for _, other := range []byte{0, 1, 3, 5, 6, 8, 0xfe, 0xfb} {
				p := picture.New()
				p.Put(3, ^b)
				p.Put(byte(reg), b)
				if got := p.Get(other); got != b {
					t.Fatalf("%02x: %02x from %d, want %02x", reg, got, other, b)
				}
			}
		}
	}
}

// TestP15_2Again: a register's number counts modulo 8.
func TestP15_2Again(t *testing.T) {
	r := rand.New(rand.NewSource(2))
	for range 20 {
		p, c := picture.New(), picture.New()
		for range 3000 {
			reg, b, far := byte(r.Intn(8)), byte(r.Intn(256)), byte(r.Intn(32)*8)
			if r.Intn(3) == 0 {
				if got, want := p.Get(reg+far), c.Get(reg); got != want {
					t.Fatalf("%02x: %02x, want %02x", reg+far, got, want)
				}
			} else {
				p.Put(reg+far, b)
				c.Put(reg, b)
			}
			n := r.Intn(40)
			clocks(p, n)
			clocks(c, n)
		}
		if string(told(p)) != string(told(c)) {
			t.Fatal("another")
		}
	}
}

// TestP15_2Control: the control register selects the nametable, behind the upper part of an address too.
func TestP15_2Control(t *testing.T) {
	for b := range 256 {
		p := picture.New()
		p.Put(address, 0x20)
		p.Put(control, byte(b))
		p.Put(address, 0x12)
		if got, want := where(p), 0x2012+b%4*0x400; got != want {
			t.Fatalf("%02x: %04x, want %04x", b, got, want)
		}
	}
}

func TestP15_2Step(t *testing.T) {
	for b := range 256 {
		p := picture.New()
		at(p, 0x1004)
		p.Put(control, byte(b))
		put(p, data, 1, 2, 3)
		step := uint16(1)
		if b&4 != 0 {
			step = 32
		}
		if p.Peek(0x1004) != 1 || p.Peek(0x1004+step) != 2 || p.Peek(0x1004+2*step) != 3 || where(p) != 0x1004+3*int(step) {
			t.Fatalf("%02x: %04x", b, where(p))
		}
		p.Get(data)
		if where(p) != 0x1004+4*int(step) {
			t.Fatalf("%02x: %04x", b, where(p))
		}
	}
}

// TestP15_2Mask: the mask register changes nothing at once.
func TestP15_2Mask(t *testing.T) {
	p, c := scene(), scene()
	past(p, 241, 1)
	past(c, 241, 1)
	for b := range 256 {
		p.Put(mask, byte(b))
	}
	c.Put(status, 0xff)
	if string(told(p)) != string(told(c)) {
		t.Error("changed")
	}
}

// TestP15_2Status: a write to the status register is on the bus, and has no other effect.
func TestP15_2Status(t *testing.T) {
	p := scene()
	past(p, 241, 1)
	for b := range 256 {
		c, other := p.Copy(), p.Copy()
		c.Put(status, byte(b))
		other.Put(mask, byte(b))
		other.Put(mask, 0x1e)
		other.Put(status, byte(b))
		if string(told(c)) != string(told(other)) {
			t.Fatal(b)
		}
		if !c.NMI() || c.Get(status)&0x9f != byte(0x80|b&0x1f) {
			t.Fatal(b)
		}
	}
}

// TestP15_2Sprites: the sprite address counts up with writes, and behind ff comes 0.
func TestP15_2Sprites(t *testing.T) {
	p := picture.New()
	p.Put(spriteAddress, 0xfd)
	put(p, spriteByte, 0x51, 0xff, 0x53, 0x54, 0x55)
	if b := p.Get(spriteByte); b != 0 {
		t.Error(b)
	}
	for _, c := range []struct{ at, want byte }{{0xfc, 0}, {0xfd, 0x51}, {0xfe, 0xe3}, {0xff, 0x53}, {0, 0x54}, {1, 0x55}, {2, 0}} {
		p.Put(spriteAddress, c.at)
		if b := p.Get(spriteByte); b != c.want {
			t.Errorf("%02x: %02x, want %02x", c.at, b, c.want)
		}
		if b := p.Get(spriteByte); b != c.want {
			t.Errorf("%02x: %02x on the second read", c.at, b)
		}
	}
	// The whole byte of attributes is kept.
	p.Put(spriteAddress, 0xfe)
	p.Put(spriteByte, 0x1c)
	p.Put(spriteAddress, 0xfe)
	if b := p.Get(spriteByte); b != 0 {
		t.Error(b)
	}
}

// TestP15_2Offset: both offsets share with the address which write comes next.
func TestP15_2Offset(t *testing.T) {
	for b := range 256 {
		p := picture.New()
		p.Put(offset, 0xff)
		p.Put(offset, byte(b))
		p.Put(offset, 0)
		p.Put(address, 0x34)
		// The row, and the line's upper bits, come of the second offset.
		want := b%8*0x1000 + b/64*0x100 + 0x34
		if got := where(p); got != least(uint16(want)) {
			t.Fatalf("%02x: %04x, want %04x", b, got, least(uint16(want)))
		}
	}
}

// TestP15_2Left: the first offset is seen where a line is begun again.
func TestP15_2Left(t *testing.T) {
	for b := range 256 {
		p := picture.New()
		p.Put(offset, byte(b))
		p.Put(mask, 8)
		past(p, 0, 257)
		p.Put(mask, 0)
		if got := where(p); got != 0x1000+b/8 {
			t.Fatalf("%02x: %04x", b, got)
		}
	}
}

func TestP15_2Address(t *testing.T) {
	for v := range 0x10000 {
		if v%37 != 0 && v < 0xff00 && v&0xff != 0xff {
			continue
		}
		p := picture.New()
		put(p, address, byte(v>>8), byte(v))
		if got := where(p); got != least(uint16(v)) {
			t.Fatalf("%04x: %04x", v, got)
		}
	}
}

// TestP15_2Data: the data register writes all that Poke does, in steps that go around.
func TestP15_2Data(t *testing.T) {
	for _, far := range []byte{0, 4} {
		p, c := picture.New(), picture.New()
		p.Put(control, far)
		at(p, 0x3ffe)
		v := uint16(0x3ffe)
		for i := range 0x9000 {
			b := byte(i*7 + i>>8)
			p.Put(data, b)
			c.Poke(v, b)
			v++
			if far != 0 {
				v += 31
			}
			v %= 0x8000
		}
		for a := range uint16(0x4000) {
			if p.Peek(a) != c.Peek(a) {
				t.Fatalf("%d: %04x: %02x, want %02x", far, a, p.Peek(a), c.Peek(a))
			}
		}
	}
}

func TestP15_3Bus(t *testing.T) {
	for _, reg := range []byte{0, 1, 3, 5, 6, 0xf8, 9, 0x83, 0x45, 0x6e} {
		p := scene()
		past(p, 241, 1)
		p.Put(status, 0xa5)
		c := p.Copy()
		if b := p.Get(reg); b != 0xa5 {
			t.Errorf("%02x: %02x", reg, b)
		}
		if string(told(p)) != string(told(c)) {
			t.Errorf("%02x has an effect", reg)
		}
	}
}

// TestP15_3Results: what 2, 4 and 7 return is on the bus.
func TestP15_3Results(t *testing.T) {
	p := scene()
	past(p, 241, 1)
	for _, reg := range []byte{2, 4, 7, 7, 0x0a, 0xfc, 0x7f} {
		for b := range 256 {
			p.Put(status, byte(b))
			got := p.Get(reg)
			if p.Get(0) != got || p.Get(6) != got {
				t.Fatalf("%02x: %02x %02x", reg, got, p.Get(0))
			}
		}
	}
}

// hitAndOverflow returns a picture unit with both flags, and without the vertical blank.
func hitAndOverflow() *picture.Picture {
	p := picture.New()
	for i := range uint16(0x1000) {
		p.Poke(i, 0xff)
	}
	p.Put(mask, 0x1e)
	to(p, 100, 0)
	return p
}

func TestP15_3Status(t *testing.T) {
	p := hitAndOverflow()
	for b := range 256 {
		p.Put(status, byte(b))
		if got := p.Get(status); got != 0x60|byte(b)&0x1f {
			t.Fatalf("%02x: %02x", b, got)
		}
	}
	past(p, 241, 1)
	for b := range 256 {
		c := p.Copy()
		c.Put(status, byte(b))
		if got := c.Get(status); got != 0xe0|byte(b)&0x1f {
			t.Fatalf("%02x: %02x", b, got)
		}
		if got := c.Get(status); got != 0x60|byte(b)&0x1f {
			t.Fatalf("%02x, again: %02x", b, got)
		}
	}
}

// TestP15_3Look: a look makes the next write the first of two.
func TestP15_3Look(t *testing.T) {
	p := picture.New()
	p.Put(address, 0x3f)
	p.Get(status)
	put(p, address, 0x12, 0x34)
	if where(p) != 0x1234 {
		t.Errorf("%04x", where(p))
	}
	p = picture.New()
	p.Put(offset, 0x3f)
	for _, reg := range []byte{0, 1, 3, 4, 5, 6, 7} {
		p.Get(reg)
	}
	p.Put(address, 0x34)
	if where(p) != 0x0034 {
		t.Errorf("%04x: another look ended it", where(p))
	}
}

func TestP15_3Sprites(t *testing.T) {
	p := picture.New()
	for b := range 256 {
		for i := range 256 {
			p.Put(spriteAddress, byte(i))
			p.Put(spriteByte, byte(b))
			p.Put(spriteAddress, byte(i))
			want := byte(b)
			if i%4 == 2 {
				want &= 0xe3
			}
			if got := p.Get(spriteByte); got != want {
				t.Fatalf("%02x at %02x: %02x", b, i, got)
			}
		}
	}
}

// TestP15_3Behind: reads of the memory are one behind, for all addresses but those of colours.
func TestP15_3Behind(t *testing.T) {
	p := scene()
	for v := range uint16(0x3f00) {
		at(p, v)
		p.Get(data)
		if got := p.Copy().Get(data); v < 0x3eff && got != p.Peek(v) {
			t.Fatalf("%04x: %02x, want %02x", v, got, p.Peek(v))
		}
		before := p.Peek(v)
		p.Poke(v, ^before)
		if got := p.Get(data); v < 0x3eff && got != before {
			t.Fatalf("%04x: %02x, want %02x as it was at the read", v, got, before)
		}
	}
	// A row of reads: the first has what was read before.
	at(p, 0x7000)
	p.Get(data)
	at(p, 0x0010)
	for i := range uint16(0x3000) {
		want := p.Peek(0x10 + i - 1)
		if i == 0 {
			want = p.Peek(0x3000)
		}
		if got := p.Get(data); got != want {
			t.Fatalf("%04x: %02x, want %02x", i, got, want)
		}
	}
}

// TestP15_3Colours: a color is read at once, with bits of the bus, and the buffer has what is behind it.
func TestP15_3Colours(t *testing.T) {
	for _, upright := range []bool{false, true} {
		p := scene()
		p.Upright(upright)
		for v := uint16(0x3f00); v < 0x4000; v++ {
			for _, b := range []byte{0, 0x40, 0x80, 0xc0, 0xff, 0x3f, 0x6a} {
				at(p, v+uint16(b)&0x40<<8)
				p.Put(status, b)
				if got := p.Get(data); got != p.Peek(v)|b&0xc0 {
					t.Fatalf("%04x: %02x, want %02x", v, got, p.Peek(v)|b&0xc0)
				}
				at(p, 0)
				if got := p.Get(data); got != p.Peek(v-0x1000) {
					t.Fatalf("%04x: %02x behind it, want %02x", v, got, p.Peek(v-0x1000))
				}
			}
		}
	}
}

// TestP15_3Grey: what is shown grey is read as it is.
func TestP15_3Grey(t *testing.T) {
	p := picture.New()
	p.Poke(0x3f07, 0x2d)
	p.Put(mask, 1)
	at(p, 0x3f07)
	if got := p.Get(data) & 0x3f; got != 0x2d {
		t.Errorf("%02x", got)
	}
}

// TestP15_3Steps: each read goes on, also around the end of V.
func TestP15_3Steps(t *testing.T) {
	for _, c := range []struct {
		control    byte
		v          uint16
		next, last int
	}{
		{0, 0x0000, 1, 2}, {4, 0x0000, 0x20, 0x40}, {0, 0x1fff, 0x2000, 0x2001}, {4, 0x1fff, 0x201f, 0x203f},
		{0, 0x3eff, 0x3f00, 0x3f01}, {4, 0x3fff, 0x1f, 0x3f}, {0, 0x7fff, 0, 1}, {4, 0x7ff0, 0x10, 0x30},
		{0xfb, 0x2fff, 0x2000, 0x2001}, {0xff, 0x1234, 0x1254, 0x1274},
	} {
		p := picture.New()
		p.Put(control, c.control)
		at(p, c.v)
		text := fmt.Sprintf("%02x %04x", c.control, c.v)
		if p.Get(data); where(p) != c.next {
			t.Errorf("%s: %04x", text, where(p))
		}
		if p.Put(data, 0); where(p) != c.last {
			t.Errorf("%s: %04x", text, where(p))
		}
	}
}
