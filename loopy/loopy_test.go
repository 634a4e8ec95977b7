package loopy_test

import (
	"testing"

	"kotatsu/loopy"
)

// expect holds a scroll against the one that is wanted.
func expect(t *testing.T, what string, got, want loopy.Scroll) {
	t.Helper()
	if got != want {
		t.Errorf("%s: %s, want %s", what, text(got), text(want))
	}
}

func TestP14_1Inside(t *testing.T) {
	for what, call := range calls() {
		if s := call(loopy.Scroll{V: 0x8000, T: 0x8000, X: 0xf8}, 0); s.V&0x8000 != 0 || s.T&0x8000 != 0 || s.X > 7 {
			t.Errorf("%s: %s", what, text(s))
		}
		if s := call(loopy.Scroll{V: 0xffff, T: 0xffff, X: 0xff, W: true}, 0xff); s.V&0x8000 != 0 || s.T&0x8000 != 0 || s.X > 7 {
			t.Errorf("%s: %s", what, text(s))
		}
	}
}

// TestP14_1Ignored: the bits beyond the registers change no answer.
func TestP14_1Ignored(t *testing.T) {
	s := loopy.Scroll{V: 0x73bf, T: 0x5a5a, X: 5}
	beyond := loopy.Scroll{V: 0xf3bf, T: 0xda5a, X: 0xfd}
	for what, call := range calls() {
		expect(t, what, call(beyond, 0x96), call(s, 0x96))
		s.W, beyond.W = true, true
		expect(t, what+", second", call(beyond, 0x96), call(s, 0x96))
		s.W, beyond.W = false, false
	}
	if s.Name() != beyond.Name() || s.Row() != beyond.Row() {
		t.Errorf("%x %d", beyond.Name(), beyond.Row())
	}
	at, n := s.Shade()
	if a, m := beyond.Shade(); a != at || m != n {
		t.Errorf("%x %d, want %x %d", a, m, at, n)
	}
}

// TestP14_1Fields: where each field of T is written, and each of V is read.
func TestP14_1Fields(t *testing.T) {
	expect(t, "column", loopy.Scroll{}.Offset(0xf8), loopy.Scroll{T: 0x001f, W: true})
	expect(t, "dot", loopy.Scroll{}.Offset(0x07), loopy.Scroll{X: 7, W: true})
	expect(t, "line", loopy.Scroll{W: true}.Offset(0xf8), loopy.Scroll{T: 0x03e0})
	expect(t, "across", loopy.Scroll{}.Control(1), loopy.Scroll{T: 0x0400})
	expect(t, "down", loopy.Scroll{}.Control(2), loopy.Scroll{T: 0x0800})
	expect(t, "row", loopy.Scroll{W: true}.Offset(0x07), loopy.Scroll{T: 0x7000})
	for row := range 8 {
		if s := (loopy.Scroll{V: uint16(row)<<12 | 0x8fff}); int(s.Row()) != row {
			t.Errorf("row %d: %d", row, s.Row())
		}
	}
}

func TestP14_2Control(t *testing.T) {
	for b := range 256 {
		s := loopy.Scroll{V: 0x1234, T: 0x7fff, X: 3, W: b%2 == 0}
		want := s
		want.T = []uint16{0x73ff, 0x77ff, 0x7bff, 0x7fff}[b%4]
		expect(t, "over ones", s.Control(byte(b)), want)
		s.T = 0
		want.T = []uint16{0, 0x400, 0x800, 0xc00}[b%4]
		expect(t, "over zeros", s.Control(byte(b)), want)
	}
}

func TestP14_2Offset(t *testing.T) {
	s := loopy.Scroll{}.Offset(0x7d)
	expect(t, "first", s, loopy.Scroll{T: 0x000f, X: 5, W: true})
	expect(t, "second", s.Offset(0x5e), loopy.Scroll{T: 0x616f, X: 5})
	for b := range 256 {
		five, three := uint16(b/8), uint16(b%8)
		s := loopy.Scroll{V: 0x2aaa, T: 0x7fff, X: 7}
		expect(t, "first over ones", s.Offset(byte(b)), loopy.Scroll{V: 0x2aaa, T: 0x7fe0 + five, X: byte(three), W: true})
		s.W = true
		expect(t, "second over ones", s.Offset(byte(b)), loopy.Scroll{V: 0x2aaa, T: 0x0c1f + five*32 + three*4096, X: 7})
		s = loopy.Scroll{}
		expect(t, "first over zeros", s.Offset(byte(b)), loopy.Scroll{T: five, X: byte(three), W: true})
		s.W = true
		expect(t, "second over zeros", s.Offset(byte(b)), loopy.Scroll{T: five*32 + three*4096})
	}
}

func TestP14_2Address(t *testing.T) {
	s := loopy.Scroll{X: 2}.Address(0x3d)
	expect(t, "first", s, loopy.Scroll{T: 0x3d00, X: 2, W: true})
	expect(t, "second", s.Address(0xf0), loopy.Scroll{V: 0x3df0, T: 0x3df0, X: 2})
	for b := range 256 {
		six := uint16(b % 64)
		s := loopy.Scroll{V: 0x2aaa, T: 0x7fff, X: 7}
		expect(t, "first over ones", s.Address(byte(b)), loopy.Scroll{V: 0x2aaa, T: six*256 + 0xff, X: 7, W: true})
		s.W = true
		low := 0x7f00 + uint16(b)
		expect(t, "second over ones", s.Address(byte(b)), loopy.Scroll{V: low, T: low, X: 7})
		s = loopy.Scroll{}
		expect(t, "first over zeros", s.Address(byte(b)), loopy.Scroll{T: six * 256, W: true})
		s.W = true
		expect(t, "second over zeros", s.Address(byte(b)), loopy.Scroll{V: uint16(b), T: uint16(b)})
	}
}

// TestP14_2Highest: the first write of an address clears T's highest bit, which only an offset sets.
func TestP14_2Highest(t *testing.T) {
	s := loopy.Scroll{W: true}.Offset(4)
	expect(t, "offset", s, loopy.Scroll{T: 0x4000})
	expect(t, "address", s.Address(0xff), loopy.Scroll{T: 0x3f00, W: true})
}

// TestP14_2Shared: both kinds of writes share W.
func TestP14_2Shared(t *testing.T) {
	s := loopy.Scroll{}.Offset(0xff).Address(0x55)
	expect(t, "offset, then address", s, loopy.Scroll{V: 0x55, T: 0x55, X: 7})
	s = loopy.Scroll{}.Address(0x2f).Offset(0x09)
	expect(t, "address, then offset", s, loopy.Scroll{T: 0x1c20})
}

func TestP14_2Look(t *testing.T) {
	s := loopy.Scroll{V: 0x7abc, T: 0x1def, X: 6, W: true}
	want := loopy.Scroll{V: 0x7abc, T: 0x1def, X: 6}
	expect(t, "set", s.Look(), want)
	expect(t, "not set", want.Look(), want)
	s = loopy.Scroll{}.Address(0x12).Look().Address(0x34)
	expect(t, "between two writes", s, loopy.Scroll{T: 0x3400, W: true})
}

func TestP14_2Step(t *testing.T) {
	for v := range 0x10000 {
		s := loopy.Scroll{V: uint16(v), T: 0x4321, X: 1, W: true}
		want := loopy.Scroll{V: uint16((v + 1) % 0x8000), T: 0x4321, X: 1, W: true}
		if got := s.Step(false); got != want {
			t.Fatalf("%04x: %s", v, text(got))
		}
		want.V = uint16((v + 32) % 0x8000)
		if got := s.Step(true); got != want {
			t.Fatalf("%04x, far: %s", v, text(got))
		}
	}
}

// TestP14_2Values: a call leaves the scroll as it is, whose new value it returns.
func TestP14_2Values(t *testing.T) {
	s := loopy.Scroll{V: 0x73bf, T: 0x5a5a, X: 5, W: true}
	before := s
	for what, call := range calls() {
		call(s, 0xff)
		expect(t, what, s, before)
	}
}
