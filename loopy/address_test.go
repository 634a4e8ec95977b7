package loopy_test

import (
	"testing"

	"kotatsu/loopy"
)

func TestP14_4Name(t *testing.T) {
	for v := range 0x10000 {
		s := loopy.Scroll{V: uint16(v), T: ^uint16(v)}
		if want := 0x2000 + v%0x1000; int(s.Name()) != want {
			t.Fatalf("%04x: %04x, want %04x", v, s.Name(), want)
		}
	}
}

func TestP14_4Shade(t *testing.T) {
	for _, c := range []struct {
		v, at uint16
		bits  byte
	}{
		{0x0000, 0x23c0, 0}, {0x0001, 0x23c0, 0}, {0x0002, 0x23c0, 2}, {0x0003, 0x23c0, 2}, {0x0004, 0x23c1, 0},
		{0x0020, 0x23c0, 0}, {0x0040, 0x23c0, 4}, {0x0060, 0x23c0, 4}, {0x0080, 0x23c8, 0}, {0x0042, 0x23c0, 6},
		{0x001f, 0x23c7, 2}, {0x03a0, 0x23f8, 0}, {0x03ff, 0x23ff, 6}, {0x0400, 0x27c0, 0}, {0x0800, 0x2bc0, 0},
		{0x0c00, 0x2fc0, 0}, {0x7fff, 0x2fff, 6}, {0xffff, 0x2fff, 6}, {0x7000, 0x23c0, 0}, {0x2c67, 0x2fc1, 6},
	} {
		if at, bits := (loopy.Scroll{V: c.v}).Shade(); at != c.at || bits != c.bits {
			t.Errorf("%04x: %04x %d, want %04x %d", c.v, at, bits, c.at, c.bits)
		}
	}
}

// TestP14_4Quarters: a byte of shades has 16 tiles, each two bits of it four of them.
func TestP14_4Quarters(t *testing.T) {
	type place struct {
		at   uint16
		bits byte
	}
	count := map[place]int{}
	for v := range uint16(0x1000) {
		at, bits := loopy.Scroll{V: v}.Shade()
		if at&0xf3c0 != 0x23c0 {
			t.Fatalf("%04x: %04x", v, at)
		}
		count[place{at, bits}]++
	}
	for p, n := range count {
		if p.bits > 6 || p.bits%2 != 0 || n != 4 {
			t.Errorf("%04x %d: %d tiles", p.at, p.bits, n)
		}
	}
	if len(count) != 4*64*4 {
		t.Error(len(count))
	}
}

func TestP14_4Row(t *testing.T) {
	for v := range 0x10000 {
		if got := (loopy.Scroll{V: uint16(v), X: 5}).Row(); int(got) != v/0x1000%8 {
			t.Fatalf("%04x: %d", v, got)
		}
	}
}

// TestP14_4VAlone: what is derived is derived from V alone.
func TestP14_4VAlone(t *testing.T) {
	s := loopy.Scroll{V: 0x2c67}
	other := loopy.Scroll{V: 0x2c67, T: 0x7fff, X: 7, W: true}
	at, bits := s.Shade()
	if a, b := other.Shade(); a != at || b != bits || s.Name() != other.Name() || s.Row() != other.Row() {
		t.Error(a, b, other.Name(), other.Row())
	}
}

func TestP14_5Mirror(t *testing.T) {
	for _, c := range []struct {
		at             uint16
		beside, upward uint16
	}{
		{0x2000, 0, 0}, {0x23ff, 0x3ff, 0x3ff}, {0x2400, 0x400, 0}, {0x27ff, 0x7ff, 0x3ff},
		{0x2800, 0, 0x400}, {0x2bff, 0x3ff, 0x7ff}, {0x2c00, 0x400, 0x400}, {0x2fff, 0x7ff, 0x7ff},
		{0x3000, 0, 0}, {0x3eff, 0x6ff, 0x6ff}, {0xffff, 0x7ff, 0x7ff}, {0x1801, 1, 0x401}, {0, 0, 0},
	} {
		if got := loopy.Mirror(c.at, true); got != c.beside {
			t.Errorf("%04x, upright: %03x, want %03x", c.at, got, c.beside)
		}
		if got := loopy.Mirror(c.at, false); got != c.upward {
			t.Errorf("%04x: %03x, want %03x", c.at, got, c.upward)
		}
	}
}

func TestP14_5MirrorAll(t *testing.T) {
	for at := range 0x10000 {
		beside, below := at/0x400%2, at/0x800%2
		if got := loopy.Mirror(uint16(at), true); int(got) != at%0x400+beside*0x400 {
			t.Fatalf("%04x, upright: %03x", at, got)
		}
		if got := loopy.Mirror(uint16(at), false); int(got) != at%0x400+below*0x400 {
			t.Fatalf("%04x: %03x", at, got)
		}
	}
}

func TestP14_5Colour(t *testing.T) {
	for at := range 0x10000 {
		want := at % 32
		switch want {
		case 0x10:
			want = 0
		case 0x14:
			want = 4
		case 0x18:
			want = 8
		case 0x1c:
			want = 0xc
		}
		if got := loopy.Colour(uint16(at)); int(got) != want {
			t.Fatalf("%04x: %02x, want %02x", at, got, want)
		}
	}
}
