package loopy_test

import (
	"fmt"
	"math/rand"
	"testing"

	"kotatsu/loopy"
)

func text(s loopy.Scroll) string {
	return fmt.Sprintf("V %04x T %04x X %d W %t", s.V, s.T, s.X, s.W)
}

// calls returns all calls that return a scroll, by their names.
func calls() map[string]func(loopy.Scroll, byte) loopy.Scroll {
	return map[string]func(loopy.Scroll, byte) loopy.Scroll{
		"Control": loopy.Scroll.Control,
		"Offset":  loopy.Scroll.Offset,
		"Address": loopy.Scroll.Address,
		"Look":    func(s loopy.Scroll, _ byte) loopy.Scroll { return s.Look() },
		"Step":    func(s loopy.Scroll, _ byte) loopy.Scroll { return s.Step(false) },
		"Far":     func(s loopy.Scroll, _ byte) loopy.Scroll { return s.Step(true) },
		"Right":   func(s loopy.Scroll, _ byte) loopy.Scroll { return s.Right() },
		"Down":    func(s loopy.Scroll, _ byte) loopy.Scroll { return s.Down() },
		"Line":    func(s loopy.Scroll, _ byte) loopy.Scroll { return s.Line() },
		"Top":     func(s loopy.Scroll, _ byte) loopy.Scroll { return s.Top() },
	}
}

// fields is V or T, taken apart.
type fields struct{ column, line, across, down, row int }

func apart(n uint16) fields {
	v := int(n)
	return fields{v % 32, v / 32 % 32, v / 1024 % 2, v / 2048 % 2, v / 4096 % 8}
}

func (f fields) together() uint16 {
	return uint16(f.column + 32*(f.line+32*(f.across+2*(f.down+2*f.row))))
}

// model is the document's scroll with its fields apart.
type model struct {
	v, t fields
	x    int
	w    bool
}

func modelOf(s loopy.Scroll) model {
	return model{apart(s.V), apart(s.T), int(s.X) % 8, s.W}
}

func (m model) scroll() loopy.Scroll {
	return loopy.Scroll{V: m.v.together(), T: m.t.together(), X: byte(m.x), W: m.w}
}

// do makes one call.
func (m model) do(what string, b int) model {
	switch what {
	case "Control":
		m.t.across, m.t.down = b%2, b/2%2
	case "Offset":
		if m.w {
			m.t.line, m.t.row = b/8, b%8
		} else {
			m.t.column, m.x = b/8, b%8
		}
		m.w = !m.w
	case "Address":
		if m.w {
			m.t.column, m.t.line = b%32, m.t.line/8*8+b/32
			m.v = m.t
		} else {
			m.t.line = m.t.line%8 + b%4*8
			m.t.across, m.t.down, m.t.row = b/4%2, b/8%2, b/16%4
		}
		m.w = !m.w
	case "Look":
		m.w = false
	case "Step":
		m.v = apart(m.v.together() + 1)
	case "Far":
		m.v = apart(m.v.together() + 32)
	default:
		m.v = m.move(what)
	}
	return m
}

// move returns the fields of V behind one of the picture's own calls.
func (m model) move(what string) fields {
	v := m.v
	switch what {
	case "Right":
		across := v.across*32 + v.column + 1
		v.column, v.across = across%32, across/32%2
	case "Down":
		v.row++
		if v.row < 8 {
			break
		}
		v.row = 0
		v.line++
		if v.line == 30 {
			v.down = 1 - v.down
		}
		if v.line == 30 || v.line == 32 {
			v.line = 0
		}
	case "Line":
		v.column, v.across = m.t.column, m.t.across
	case "Top":
		v.line, v.down, v.row = m.t.line, m.t.down, m.t.row
	}
	return v
}

// shade returns what Shade does.
func (m model) shade() (int, int) {
	at := 0x23c0 + 0x400*(2*m.v.down+m.v.across) + m.v.line/4*8 + m.v.column/4
	return at, m.v.column/2%2*2 + m.v.line/2%2*4
}

// TestP14_1Model: every V and T, with every call, also with the bits that the registers do not have.
func TestP14_1Model(t *testing.T) {
	r := rand.New(rand.NewSource(14))
	for what, call := range calls() {
		for n := range 0x20000 {
			b := r.Intn(256)
			s := loopy.Scroll{V: uint16(n / 2), T: uint16(r.Intn(0x10000)), X: byte(r.Intn(256)), W: r.Intn(2) == 1}
			if n%2 == 0 {
				s.V, s.T = s.T, s.V
			}
			got, want := call(s, byte(b)), modelOf(s).do(what, b).scroll()
			if got != want {
				t.Fatalf("%s of %02x at %s: %s, want %s", what, b, text(s), text(got), text(want))
			}
			at, bits := s.Shade()
			if a, m := modelOf(s).shade(); int(at) != a || int(bits) != m {
				t.Fatalf("Shade of %s: %04x %d, want %04x %d", text(s), at, bits, a, m)
			}
		}
	}
}

// TestP14_3Lives: long random lives, each call upon what the one before it returned.
func TestP14_3Lives(t *testing.T) {
	names := []string{"Control", "Offset", "Address", "Look", "Step", "Far", "Right", "Down", "Line", "Top"}
	all := calls()
	r := rand.New(rand.NewSource(3))
	for range 100 {
		var s loopy.Scroll
		var m model
		for range 1000 {
			what, b := names[r.Intn(len(names))], r.Intn(256)
			before := s
			s, m = all[what](s, byte(b)), m.do(what, b)
			if s != m.scroll() {
				t.Fatalf("%s of %02x at %s: %s, want %s", what, b, text(before), text(s), text(m.scroll()))
			}
		}
	}
}
