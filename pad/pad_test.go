package pad

import (
	"math/rand"
	"slices"
	"strings"
	"testing"
)

// bits returns what n calls of Get return.
func bits(p *Pad, n int) []byte {
	var l []byte
	for range n {
		l = append(l, p.Get())
	}
	return l
}

// check holds what the next calls of Get return against a text of digits.
func check(t *testing.T, what string, p *Pad, want string) {
	t.Helper()
	for i, b := range bits(p, len(want)) {
		if b != want[i]-'0' {
			t.Errorf("%s: bit %d is %d, want %s", what, i, b, want)
		}
	}
}

func TestP16_1Buttons(t *testing.T) {
	if !slices.Equal([]int{A, B, Select, Start, Up, Down, Left, Right}, []int{1, 2, 4, 8, 16, 32, 64, 128}) {
		t.Error("buttons")
	}
}

func TestP16_1First(t *testing.T) {
	p := New()
	if p.Held() != 0 {
		t.Error(p.Held())
	}
	check(t, "new", p, "000000001111")
	p = New()
	p.Hold(0xff)
	check(t, "held without a strobe", p, "000000001111")
	p = New()
	p.Hold(0xff)
	p.Put(0)
	check(t, "the strobe was 0 all the time", p, "000000001111")
	p = New()
	p.Put(1)
	p.Put(0)
	check(t, "nothing held", p, "0000000011")
}

func TestP16_1Example(t *testing.T) {
	p := New()
	p.Hold(A | Start)
	p.Put(1)
	p.Put(0)
	check(t, "A and Start", p, "1001000011")
}

// TestP16_1All: the bits of all sets of buttons, from the lowest on, and ones behind them.
func TestP16_1All(t *testing.T) {
	for held := range 256 {
		p := New()
		p.Hold(byte(held))
		p.Put(1)
		p.Put(0)
		for i, b := range bits(p, 30) {
			want := byte(1)
			if i < 8 {
				want = byte(held / (1 << i) % 2)
			}
			if b != want {
				t.Fatalf("%02x: bit %d is %d", held, i, b)
			}
		}
		if int(p.Held()) != held {
			t.Fatal(p.Held())
		}
	}
}

func TestP16_1Strobe(t *testing.T) {
	p := New()
	p.Hold(A | Right)
	p.Put(1)
	check(t, "nothing is removed while the strobe is 1", p, "111111111111")
	p.Hold(B)
	check(t, "the register follows the buttons while the strobe is 1", p, "0000")
	p.Hold(B | Down)
	p.Put(0)
	if p.Held() != B|Down {
		t.Error(p.Held())
	}
	p.Hold(A)
	check(t, "buttons held since do not count", p, "010")
	p.Put(0)
	check(t, "the strobe was 0 already", p, "00")
	p.Hold(0)
	check(t, "nor does letting go", p, "10011")
	p.Hold(Select)
	p.Put(1)
	p.Put(1)
	p.Put(0)
	check(t, "again", p, "0010000011")
	check(t, "the strobe of a full register", p, "1")
	p.Put(1)
	check(t, "the strobe loads at once", p, "00")
}

func TestP16_1LowestBit(t *testing.T) {
	for b := range 256 {
		p := New()
		p.Hold(A)
		p.Put(byte(b))
		want := "0000000011"
		if b%2 == 1 {
			want = "1111111111"
		}
		check(t, "from 0", p, want)
		p = New()
		p.Hold(A)
		p.Put(1)
		p.Put(byte(b))
		want = "1000000011"
		if b%2 == 1 {
			want = "1111111111"
		}
		check(t, "from 1", p, want)
	}
}

func TestP16_1Copy(t *testing.T) {
	p := New()
	p.Hold(A | Select | Start)
	p.Put(1)
	c := p.Copy()
	p.Hold(B)
	p.Put(0)
	check(t, "a copy keeps the strobe and the buttons", c, "111")
	c.Put(0)
	check(t, "a copy", c, "1011")
	d := c.Copy()
	check(t, "a copy in the midst", d, "000011")
	c.Hold(Right)
	check(t, "the copied one", c, "000011")
	check(t, "the first one", p, "0100000011")
	if p.Held() != B || c.Held() != Right || d.Held() != A|Select|Start {
		t.Error(p.Held(), c.Held(), d.Held())
	}
}

func TestP16_1Nil(t *testing.T) {
	var p *Pad
	p.Hold(0xff)
	p.Put(1)
	if p.Get() != 0 || p.Held() != 0 || p.Copy() != nil {
		t.Error("a nil pad has something")
	}
	if a, b := New(), New(); a == b || a == nil {
		t.Error("no pads of their own")
	}
}

// queue is a pad by the document's words: a list of bits.
type queue struct {
	held   byte
	bits   []byte
	strobe bool
}

func (q *queue) fill() {
	if q.strobe {
		q.bits = nil
		for i := range 8 {
			q.bits = append(q.bits, q.held>>i&1)
		}
	}
}

func (q *queue) get() byte {
	b := q.bits[0]
	if !q.strobe {
		q.bits = append(slices.Clone(q.bits[1:]), 1)
	}
	return b
}

func TestP16_1Model(t *testing.T) {
	r := rand.New(rand.NewSource(16))
	for range 300 {
		p, q := New(), &queue{bits: make([]byte, 8)}
		for range 200 {
			b := byte(r.Intn(256))
			switch r.Intn(8) {
			case 0:
				p.Hold(b)
				q.held = b
				q.fill()
			case 1:
				p.Put(b)
				q.strobe = b%2 == 1
				q.fill()
			case 2:
				p = p.Copy()
			default:
				if x, y := p.Get(), q.get(); x != y {
					t.Fatalf("%d, want %d", x, y)
				}
			}
			if p.Held() != q.held {
				t.Fatal(p.Held(), q.held)
			}
		}
	}
}

func TestP16_2Examples(t *testing.T) {
	for b, want := range map[byte]string{
		0: "-", A: "A", B: "B", Select: "E", Start: "T", Up: "U", Down: "D", Left: "L", Right: "R",
		A | Right: "AR", B | Down: "BD", Select | Start: "ET", 0x7f: "ABETUDL", 0xfe: "BETUDLR", 0xff: "ABETUDLR",
	} {
		if s := Text(b); s != want {
			t.Errorf("%02x: %q, want %q", b, s, want)
		}
		if c, ok := Parse(want); !ok || c != b {
			t.Errorf("%q: %02x %t", want, c, ok)
		}
	}
}

// texts returns the texts of all sets of buttons.
func texts() map[string]byte {
	m := map[string]byte{}
	for b := range 256 {
		s := ""
		for i := range 8 {
			if b>>i&1 == 1 {
				s += "ABETUDLR"[i : i+1]
			}
		}
		if b == 0 {
			s = "-"
		}
		m[s] = byte(b)
	}
	return m
}

func TestP16_2All(t *testing.T) {
	m := texts()
	if len(m) != 256 {
		t.Fatal(len(m))
	}
	for s, b := range m {
		if Text(b) != s {
			t.Errorf("%02x: %q, want %q", b, Text(b), s)
		}
		for i := range len(s) + 1 {
			for _, c := range "ABETUDLR-SabX \x00" {
				checkParse(t, m, s[:i]+string(c)+s[i:])
			}
			checkParse(t, m, s[:i])
			checkParse(t, m, s[i:])
			checkParse(t, m, s[i:]+s[:i])
		}
	}
}

func checkParse(t *testing.T, m map[string]byte, s string) {
	t.Helper()
	want, right := m[s]
	if b, ok := Parse(s); b != want || ok != right {
		t.Errorf("%q: %02x %t", s, b, ok)
	}
}

func TestP16_2Wrong(t *testing.T) {
	for _, s := range []string{
		"", " ", "--", "-A", "A-", "A ", " A", "AA", "BA", "DB", "RA", "a", "ab", "x", "AX", "S", "A B", "\x00", "A\x00", "\xff", "A\xff", "\u2212", "\u00c4", "\uff21", "ABETUDLRA", "ABETUDLRR", "RLDUTEBA", "1", "A\n",
		strings.Repeat("A", 100000), strings.Repeat("ABETUDLR", 10000),
	} {
		if b, ok := Parse(s); b != 0 || ok {
			t.Errorf("%.40q: %02x %t", s, b, ok)
		}
	}
}
