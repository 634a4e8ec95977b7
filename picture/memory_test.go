package picture_test

import (
	"testing"

	"kotatsu/picture"
)

func TestP15_1Zero(t *testing.T) {
	p := picture.New()
	for a := range 0x10000 {
		if b := p.Peek(uint16(a)); b != 0 {
			t.Fatalf("%04x: %02x", a, b)
		}
	}
	for i := range 256 {
		p.Put(spriteAddress, byte(i))
		if b := p.Get(spriteByte); b != 0 {
			t.Fatal(i, b)
		}
	}
	for reg := range byte(8) {
		if b := picture.New().Get(reg); b != 0 {
			t.Error(reg, b)
		}
	}
	if l, d := p.Dot(); l != 0 || d != 0 || p.NMI() || p.Frame() != 0 {
		t.Error(l, d, p.NMI(), p.Frame())
	}
}

// TestP15_1First: sprite address, V and the control register are 0 at first.
func TestP15_1First(t *testing.T) {
	p := picture.New()
	p.Put(spriteByte, 0x11)
	p.Put(data, 0x22)
	p.Put(data, 0x33)
	if p.Peek(0) != 0x22 || p.Peek(1) != 0x33 {
		t.Error(p.Peek(0), p.Peek(1))
	}
	p.Put(spriteAddress, 0)
	if b := p.Get(spriteByte); b != 0x11 {
		t.Error(b)
	}
}

func TestP15_1Patterns(t *testing.T) {
	p := picture.New()
	for a := range uint16(0x2000) {
		p.Poke(a+a%8*0x4000, byte(a*11+a>>8))
	}
	for a := range uint16(0x2000) {
		for k := range uint16(4) {
			if b := p.Peek(a + k*0x4000); b != byte(a*11+a>>8) {
				t.Fatalf("%04x: %02x", a+k*0x4000, b)
			}
		}
	}
	for a := uint16(0x2000); a < 0x4000; a++ {
		if p.Peek(a) != 0 {
			t.Fatalf("%04x: %02x", a, p.Peek(a))
		}
	}
}

// same reports whether two addresses are those of one byte.
func same(a, b int, upright bool) bool {
	return place(a, upright) == place(b, upright)
}

// place returns the least address of a byte.
func place(a int, upright bool) int {
	a %= 0x4000
	switch {
	case a < 0x2000:
		return a
	case a < 0x3f00 && upright:
		return 0x2000 + a%0x800
	case a < 0x3f00:
		return 0x2000 + a/0x800%2*0x800 + a%0x400
	}
	a %= 32
	if a%4 == 0 {
		a %= 16
	}
	return 0x3f00 + a
}

// TestP15_1Names: which addresses have the same byte, in both arrangements.
func TestP15_1Names(t *testing.T) {
	for _, upright := range []bool{false, true} {
		for _, a := range []int{
			0x2000, 0x2001, 0x23ff, 0x2400, 0x27ff, 0x2800, 0x2abc, 0x2bff, 0x2c00, 0x2fff, 0x3000, 0x3456,
			0x37ff, 0x3800, 0x3bff, 0x3c00, 0x3eff, 0x6000, 0xa7ff, 0xfeff, 0xe000, 0x7400, 0xbeff,
		} {
			p := picture.New()
			p.Upright(upright)
			p.Poke(uint16(a), 0xc5)
			for other := range 0x10000 {
				want := byte(0)
				if same(a, other, upright) {
					want = 0xc5
				}
				if b := p.Peek(uint16(other)); b != want {
					t.Fatalf("%04x %t: %04x: %02x", a, upright, other, b)
				}
			}
		}
	}
}

// TestP15_1AllNames: all bytes of the nametables, each with its own value.
func TestP15_1AllNames(t *testing.T) {
	for _, upright := range []bool{false, true} {
		p := picture.New()
		p.Upright(upright)
		last := map[int]byte{}
		for a := 0x2000; a < 0x3f00; a++ {
			b := byte(a*29 + a>>8)
			p.Poke(uint16(a), b)
			last[place(a, upright)] = b
		}
		if len(last) != 0x800 {
			t.Fatal(len(last))
		}
		for a := 0x2000; a < 0x3f00; a++ {
			if b := p.Peek(uint16(a)); b != last[place(a, upright)] {
				t.Fatalf("%04x %t: %02x", a, upright, b)
			}
		}
	}
}

// TestP15_1Upright: the arrangement is of the addresses; the bytes stay, and it is off at first.
func TestP15_1Upright(t *testing.T) {
	p := picture.New()
	p.Poke(0x2800, 7)
	if p.Peek(0x2c00) != 7 || p.Peek(0x2400) != 0 {
		t.Error("not off at first")
	}
	p.Upright(true)
	if p.Peek(0x2400) != 7 || p.Peek(0x2c00) != 7 || p.Peek(0x2800) != 0 {
		t.Error("on")
	}
	p.Upright(true)
	p.Poke(0x2400, 9)
	p.Upright(false)
	if p.Peek(0x2800) != 9 || p.Peek(0x2400) != 0 {
		t.Error("off again")
	}
}

func TestP15_1Palette(t *testing.T) {
	for a := 0x3f00; a < 0x4000; a++ {
		p := picture.New()
		p.Poke(uint16(a+a%4*0x4000), 0xea)
		for other := range 0x10000 {
			want := byte(0)
			if same(a, other, false) {
				want = 0x2a
			}
			if b := p.Peek(uint16(other)); b != want {
				t.Fatalf("%04x: %04x: %02x", a, other, b)
			}
		}
	}
}

func TestP15_1SixBits(t *testing.T) {
	p := picture.New()
	for b := range 256 {
		p.Poke(0x3f05, byte(b))
		p.Poke(0x2005, byte(b))
		p.Poke(0x1f05, byte(b))
		if p.Peek(0x3f05) != byte(b%64) || p.Peek(0x2005) != byte(b) || p.Peek(0x1f05) != byte(b) {
			t.Fatal(b, p.Peek(0x3f05))
		}
	}
}

// TestP15_1Sprites: the 256 bytes of the sprites are apart from each other and from the memory.
func TestP15_1Sprites(t *testing.T) {
	p := picture.New()
	for i := range 256 {
		p.Put(spriteByte, byte(i*3+1))
	}
	for i := range 256 {
		p.Put(spriteAddress, byte(i))
		want := byte(i*3 + 1)
		if i%4 == 2 {
			want &= 0xe3
		}
		if b := p.Get(spriteByte); b != want {
			t.Fatal(i, b, want)
		}
	}
	for a := range uint16(0x4000) {
		if p.Peek(a) != 0 {
			t.Fatalf("%04x: %02x", a, p.Peek(a))
		}
	}
}

// TestP15_1Quiet: Peek and Poke change nothing else.
func TestP15_1Quiet(t *testing.T) {
	p := scene()
	past(p, 241, 1)
	c := p.Copy()
	for a := range 0x10000 {
		p.Poke(uint16(a), p.Peek(uint16(a)))
	}
	if string(told(p)) != string(told(c)) {
		t.Error("changed")
	}
}
