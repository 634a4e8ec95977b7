package picture_test

import (
	"testing"

	"kotatsu/loopy"
	"kotatsu/picture"
)

// TestP15_4Dots: the dots of five pictures, one after the other.
func TestP15_4Dots(t *testing.T) {
	for _, b := range []byte{0, 0x07, 0xe7, 8, 0x10, 0x18, 0xff} {
		p := picture.New()
		p.Put(mask, b)
		for n := range 5 {
			for line := range 262 {
				dots := 341
				if line == 261 && n%2 == 1 && b&0x18 != 0 {
					dots = 340
				}
				for dot := range dots {
					if l, d := p.Dot(); l != line || d != dot {
						t.Fatalf("%02x: %d: %d %d, want %d %d", b, n, l, d, line, dot)
					}
					p.Clock()
				}
			}
		}
	}
}

// length returns how many dots a picture has of which a given mask holds at one dot of the last line only.
func length(p *picture.Picture, dot int, at, otherwise byte) int {
	n := 0
	p.Put(mask, otherwise)
	for p.Clock(); ; p.Clock() {
		n++
		line, d := p.Dot()
		if line == 0 && d == 0 {
			return n
		}
		p.Put(mask, otherwise)
		if line == 261 && d == dot {
			p.Put(mask, at)
		}
	}
}

// TestP15_4Then: whether rendering is enabled counts when the line would end.
func TestP15_4Then(t *testing.T) {
	p := picture.New()
	for i, c := range []struct {
		dot           int
		at, otherwise byte
		want          int
	}{
		{339, 0, 8, 0}, {339, 8, 0, 1}, {339, 0x18, 0x18, 0}, {339, 0, 8, 0}, {338, 8, 0, 0}, {338, 0, 8, 1},
		{340, 8, 0, 0}, {340, 0x10, 0, 0}, {0, 0, 0x10, 0}, {339, 0x10, 0xe7, 1}, {339, 0x10, 0, 0}, {339, 0xe7, 0x18, 0},
	} {
		if n := length(p, c.dot, c.at, c.otherwise); n != 262*341-c.want {
			t.Errorf("picture %d: %d dots", i+1, n)
		}
	}
}

// TestP15_4EverySecond: that a picture is the second counts from the start, however they were shown.
func TestP15_4EverySecond(t *testing.T) {
	p := picture.New()
	for n := range 12 {
		b := byte(0)
		want := 262 * 341
		if n%3 != 0 {
			b = 8
			want -= n % 2
		}
		if got := length(p, 0, b, b); got != want {
			t.Errorf("picture %d: %d dots, want %d", n+1, got, want)
		}
	}
}

func TestP15_4Flags(t *testing.T) {
	p := picture.New()
	for n := range 3 {
		for range 262 * 341 {
			line, dot := p.Dot()
			p.Clock()
			now := line*341 + dot
			want, frames := byte(0), n
			if now >= 241*341+1 {
				want, frames = 0x80, n+1
			}
			if now >= 261*341+1 {
				want = 0
			}
			if flags(p) != want || p.Frame() != frames {
				t.Fatalf("%d: %d %d: %02x %d", n, line, dot, flags(p), p.Frame())
			}
		}
	}
}

// TestP15_4Once: a blank flag that was read is not set again in the same picture.
func TestP15_4Once(t *testing.T) {
	p := picture.New()
	to(p, 241, 1)
	p.Get(status)
	p.Clock()
	if p.Get(status) != 0x80 || p.Frame() != 1 {
		t.Error("lost")
	}
	for range 261*341 - 241*341 + 500 {
		p.Clock()
		if b := p.Get(status); b&0x80 != 0 || p.Frame() != 1 {
			t.Fatal(p.Dot())
		}
	}
	past(p, 241, 1)
	if p.Get(status) != 0x80 || p.Frame() != 2 {
		t.Error(p.Frame())
	}
}

// TestP15_4Cleared: hit and overflow stay till the last line's dot 1, also where nothing is shown.
func TestP15_4Cleared(t *testing.T) {
	for _, b := range []byte{0, 0x18} {
		p := hitAndOverflow()
		p.Put(mask, b)
		p.Get(status)
		for range 200000 {
			line, dot := p.Dot()
			if line == 261 && dot == 1 {
				break
			}
			p.Clock()
			if flags(p)&0x60 != 0x60 {
				t.Fatal(line, dot)
			}
		}
		p.Clock()
		if flags(p) != 0 {
			t.Errorf("%02x: %02x", b, flags(p))
		}
		to(p, 0, 0)
		if flags(p) != 0 {
			t.Errorf("%02x: %02x in the next picture", b, flags(p))
		}
	}
}

// TestP15_4Pixels: which dot sets which pixel, in two pictures, shown or not.
func TestP15_4Pixels(t *testing.T) {
	for _, b := range []byte{0, 0x18, 0x1e} {
		p := picture.New()
		away(p)
		p.Put(mask, b)
		for range 2 * 262 * 341 {
			line, dot := p.Dot()
			p.Poke(0x3f00, byte(line+dot)|0x10)
			if line >= 240 {
				p.Clock()
				continue
			}
			before := p.Row(line)
			p.Clock()
			row := p.Row(line)
			if dot >= 1 && dot <= 256 {
				before[dot-1] = byte(line+dot)&0x3f | 0x10
			}
			if string(before) != string(row) {
				t.Fatalf("%02x: %d %d", b, line, dot)
			}
			p.Poke(0x3f00, 0)
		}
	}
}

// TestP15_4Between: no dot beside those of the pixels sets one.
func TestP15_4Between(t *testing.T) {
	p := scene()
	for range 262 * 341 {
		line, dot := p.Dot()
		if line >= 1 && line < 239 && line != 100 {
			p.Clock()
			continue
		}
		before := p.Screen()
		p.Poke(0x3f00, byte(dot))
		p.Clock()
		after := p.Screen()
		for i := range after {
			if after[i] != before[i] && (line > 239 || dot < 1 || dot > 256 || i != line*256+dot-1) {
				t.Fatal(line, dot, i/256, i%256)
			}
		}
	}
}

// moved returns the scroll behind a dot, in which rendering is enabled.
func moved(s loopy.Scroll, line, dot int) loopy.Scroll {
	if line >= 240 && line != 261 {
		return s
	}
	for d := 8; d <= 248; d += 8 {
		if dot == d {
			s = s.Right()
		}
	}
	if dot == 256 {
		s = s.Down()
	}
	if dot == 257 {
		s = s.Line()
	}
	if line == 261 && dot >= 280 && dot <= 304 {
		s = s.Top()
	}
	return s
}

// scrolled returns a picture unit, and the scroll that it has.
func scrolled(register byte, left, top byte, v uint16) (*picture.Picture, loopy.Scroll) {
	p := picture.New()
	away(p)
	p.Put(control, register)
	at(p, v)
	put(p, offset, left, top)
	p.Put(control, register)
	s := loopy.Scroll{}.Control(register).Address(byte(v >> 8)).Address(byte(v)).Offset(left).Offset(top).Control(register)
	return p, s
}

// TestP15_4Moves: V behind the dots, in lines of all kinds, of three pictures.
func TestP15_4Moves(t *testing.T) {
	looks := map[int]bool{0: true, 1: true, 77: true, 238: true, 239: true, 240: true, 241: true, 250: true, 260: true, 261: true}
	for _, b := range []byte{8, 0x10, 0x1f, 0, 0xe7} {
		p, s := scrolled(2, 0xfd, 0x76, 0x1fe3)
		p.Put(mask, b)
		for n := range 2 {
			for range 262 * 341 {
				line, dot := p.Dot()
				p.Clock()
				if b&0x18 != 0 {
					s = moved(s, line, dot)
				}
				if !looks[line] {
					continue
				}
				if got := where(p); got != least(s.V) {
					t.Fatalf("%02x: picture %d: %d %d: %04x, want %04x", b, n, line, dot, got, s.V)
				}
			}
		}
	}
}

// TestP15_4MovesThen: whether rendering is enabled counts at each dot.
func TestP15_4MovesThen(t *testing.T) {
	for n := range 5 {
		p, s := scrolled(1, 0x4a, 0x3b, 0x0805)
		i := 0
		for range 262 * 341 {
			line, dot := p.Dot()
			b := byte(i / 3 * i % 5 * 8)
			i += n + 1
			p.Put(mask, b)
			p.Clock()
			if b&0x18 != 0 {
				s = moved(s, line, dot)
			}
			if line%50 == 1 || line > 260 {
				if got := where(p); got != least(s.V) {
					t.Fatalf("%d: %d %d: %04x, want %04x", n, line, dot, got, s.V)
				}
			}
		}
	}
}

// TestP15_4TopAgain: Top is done at each of its dots, so that a late write counts.
func TestP15_4TopAgain(t *testing.T) {
	for dot := range 340 {
		p, _ := scrolled(0, 0, 0, 0)
		p.Put(mask, 8)
		to(p, 261, dot)
		put(p, offset, 0, 0x9d)
		s := loopy.Scroll{V: uint16(where(p))}.Offset(0).Offset(0x9d)
		p.Clock()
		s = moved(s, 261, dot)
		if got := where(p); got != least(s.V) {
			t.Fatalf("%d: %04x, want %04x", dot, got, s.V)
		}
	}
}
