package loopy_test

import (
	"testing"

	"kotatsu/loopy"
)

func TestP14_3Right(t *testing.T) {
	for _, c := range []struct{ from, want uint16 }{
		{0x0000, 0x0001}, {0x001e, 0x001f}, {0x001f, 0x0400}, {0x041f, 0x0000},
		{0x081f, 0x0c00}, {0x7bff, 0x7fe0}, {0x7fff, 0x7be0}, {0x7fe0, 0x7fe1},
	} {
		s := loopy.Scroll{V: c.from, T: 0x2bcd, X: 4, W: true}
		expect(t, "right", s.Right(), loopy.Scroll{V: c.want, T: 0x2bcd, X: 4, W: true})
	}
}

// TestP14_3Around: 64 times right leads through two nametables, and back.
func TestP14_3Around(t *testing.T) {
	s := loopy.Scroll{V: 0x6945}
	for i := range 64 {
		x := (i + 5) % 64
		want := 0x6940 | uint16(x%32) | uint16(x/32)*0x400
		if s.V != want {
			t.Fatalf("%d: %04x, want %04x", i, s.V, want)
		}
		s = s.Right()
	}
	expect(t, "back", s, loopy.Scroll{V: 0x6945})
}

func TestP14_3Down(t *testing.T) {
	for _, c := range []struct{ from, want uint16 }{
		{0x0000, 0x1000}, {0x6fff, 0x7fff}, {0x7000, 0x0020}, {0x7380, 0x03a0},
		{0x73a0, 0x0800}, {0x7ba0, 0x0000}, {0x77bf, 0x0c1f}, {0x7fbf, 0x041f},
		{0x73c0, 0x03e0}, {0x7bc0, 0x0be0}, {0x73e0, 0x0000}, {0x7be0, 0x0800}, {0x7fff, 0x0c1f},
		{0x63a0, 0x73a0}, {0x63e0, 0x73e0},
	} {
		s := loopy.Scroll{V: c.from, T: 0x2bcd, X: 4, W: true}
		expect(t, "down", s.Down(), loopy.Scroll{V: c.want, T: 0x2bcd, X: 4, W: true})
	}
}

// TestP14_3Below: 480 times down leads through two nametables, and back.
func TestP14_3Below(t *testing.T) {
	s := loopy.Scroll{V: 0x0411}
	for i := range 480 {
		want := 0x0411 | uint16(i%8)<<12 | uint16(i/8%30)<<5 | uint16(i/240)<<11
		if s.V != want {
			t.Fatalf("%d: %04x, want %04x", i, s.V, want)
		}
		s = s.Down()
	}
	expect(t, "back", s, loopy.Scroll{V: 0x0411})
}

// TestP14_3Beyond: the lines 30 and 31 lead to line 0 of the same nametable.
func TestP14_3Beyond(t *testing.T) {
	for _, table := range []uint16{0, 0x400, 0x800, 0xc00} {
		s := loopy.Scroll{V: table | 30<<5}
		for range 16 {
			s = s.Down()
		}
		expect(t, "behind line 31", s, loopy.Scroll{V: table})
	}
}

func TestP14_3Line(t *testing.T) {
	expect(t, "ones", loopy.Scroll{T: 0x7fff, X: 2}.Line(), loopy.Scroll{V: 0x041f, T: 0x7fff, X: 2})
	expect(t, "zeros", loopy.Scroll{V: 0x7fff, W: true}.Line(), loopy.Scroll{V: 0x7be0, W: true})
}

func TestP14_3Top(t *testing.T) {
	expect(t, "ones", loopy.Scroll{T: 0x7fff, X: 2}.Top(), loopy.Scroll{V: 0x7be0, T: 0x7fff, X: 2})
	expect(t, "zeros", loopy.Scroll{V: 0x7fff, W: true}.Top(), loopy.Scroll{V: 0x041f, W: true})
}

// TestP14_3Both: Line and Top copy together all of T, and each bit once.
func TestP14_3Both(t *testing.T) {
	for bit := range 15 {
		s := loopy.Scroll{T: 1 << bit}
		if line, top := s.Line().V, s.Top().V; line^top != s.T {
			t.Errorf("%04x: %04x and %04x", s.T, line, top)
		}
		expect(t, "both", s.Line().Top(), loopy.Scroll{V: s.T, T: s.T})
	}
}
