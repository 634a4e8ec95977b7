package code

import (
	"bytes"
	"fmt"
	"slices"
	"strings"
	"testing"

	"kotatsu/api"
)

func TestP9_3Examples(t *testing.T) {
	for _, c := range []struct {
		p    string
		at   uint16
		want string
		n    int
	}{
		{"", 0, "", 0},
		{"\xa9\x05", 0x8000, "LDA #$05", 2},
		{"\xa9\x05\xff\xff", 0x8000, "LDA #$05", 2},
		{"\x85\xab", 0, "STA $AB", 2},
		{"\x95\x0f", 0, "STA $0F,X", 2},
		{"\x96\xf0", 0, "STX $F0,Y", 2},
		{"\x20\x34\x12", 0, "JSR $1234", 3},
		{"\x4c\xef\xcd", 0, "JMP $CDEF", 3},
		{"\xde\x00\x01", 0, "DEC $0100,X", 3},
		{"\xbe\x01\x00", 0, "LDX $0001,Y", 3},
		{"\x01\xfe", 0, "ORA ($FE,X)", 2},
		{"\xf1\x00", 0, "SBC ($00),Y", 2},
		{"\x6c\xff\x02", 0, "JMP ($02FF)", 3},
		{"\x00\x07", 0, "BRK #$07", 2},
		{"\x80\x07", 0, "NOP #$07", 2},
		{"\x0c\x07\x08", 0, "NOP $0807", 3},
		{"\xea", 0, "NOP", 1},
		{"\x2a", 0, "ROL", 1},
		{"\x02", 0, "JAM", 1},
		{"\x02\x02", 0, "JAM", 1},
		{"\x12", 0, "BYTE $12", 1},
		{"\x9f\x01\x02", 0, "BYTE $9F", 1},
		{"\xfa", 0, "BYTE $FA", 1},
		{"\xeb\x01", 0, "BYTE $EB", 1},
		{"\x2b\x01", 0, "BYTE $2B", 1},
		{"\x82\x01", 0, "BYTE $82", 1},
		{"\xa9", 0, "BYTE $A9", 1},
		{"\xad", 0, "BYTE $AD", 1},
		{"\xad\x01", 0, "BYTE $AD", 1},
		{"\xd0", 0, "BYTE $D0", 1},
		{"\x00", 0, "BYTE $00", 1},
		{"\x90\x00", 0x1234, "BCC $1236", 2},
		{"\xb0\x7f", 0x1234, "BCS $12B5", 2},
		{"\xf0\x80", 0x1234, "BEQ $11B6", 2},
		{"\xd0\xfe", 0x1234, "BNE $1234", 2},
		{"\x30\x80", 0, "BMI $FF82", 2},
		{"\x10\xff", 0xfffe, "BPL $FFFF", 2},
		{"\x10\x00", 0xfffe, "BPL $0000", 2},
		{"\x50\x7f", 0xffff, "BVC $0080", 2},
		{"\x70\x01", 0xffff, "BVS $0002", 2},
	} {
		if s, n := Text([]byte(c.p), c.at); s != c.want || n != c.n {
			t.Errorf("% x at %04x: %q %d, want %q %d", c.p, c.at, s, n, c.want, c.n)
		}
	}
	if s, n := Text(nil, 7); s != "" || n != 0 {
		t.Errorf("nothing: %q %d", s, n)
	}
}

// TestP9_3All: all opcodes, with operands and addresses at all edges, complete and cut; and P9.4 back again.
func TestP9_3All(t *testing.T) {
	for b, k := range kinds() {
		for low := range 256 {
			for _, high := range []int{0, 0x7f, 0xfa} {
				for _, at := range []int{0, 0x7e, 0x8000, 0xfffd, 0xffff} {
					p := []byte{byte(b), byte(low), byte(high)}
					for n := 1; n <= 3; n++ {
						checkText(t, k, p[:n], uint16(at))
					}
				}
			}
		}
	}
}

// checkText holds what Text tells of the bytes, and what Parse makes of that, against the model.
func checkText(t *testing.T, k kindOf, p []byte, at uint16) {
	t.Helper()
	want, size := fmt.Sprintf("BYTE $%02X", p[0]), 1
	if !single(int(p[0])) && len(p) >= k.size() {
		full := append(slices.Clone(p), 0, 0)
		want, size = k.line(int(full[1]), int(full[2]), int(at)), k.size()
	}
	s, n := Text(p, at)
	if s != want || n != size {
		t.Fatalf("% x at %04x: %q %d, want %q %d", p, at, s, n, want, size)
	}
	if q, e := Parse(s, at); e != api.OK || !bytes.Equal(q, p[:n]) {
		t.Fatalf("%q at %04x: % x %d, want % x", s, at, q, e, p[:n])
	}
}

func TestP9_3List(t *testing.T) {
	for _, c := range []struct {
		p    string
		at   uint16
		want []string
	}{
		{"", 0, nil},
		{"\xea", 5, []string{"NOP"}},
		{"\xa2\x01\xca\xd0\xfd", 0x300, []string{"LDX #$01", "DEX", "BNE $0302"}},
		{"\xad\x00\x40\x1a\xd0\xfe\xad\x00", 0xfffe, []string{"LDA $4000", "BYTE $1A", "BNE $0002", "BYTE $AD", "BYTE $00"}},
		{"\xd0\xfe\xd0\xfe\xd0", 0xfffd, []string{"BNE $FFFD", "BNE $FFFF", "BYTE $D0"}},
		{"\x12\x22\x02", 0, []string{"BYTE $12", "BYTE $22", "JAM"}},
	} {
		if l := List([]byte(c.p), c.at); !slices.Equal(l, c.want) {
			t.Errorf("% x at %04x: %q, want %q", c.p, c.at, l, c.want)
		}
	}
	if l := List(nil, 1); len(l) != 0 {
		t.Error(l)
	}
}

// TestP9_3ListLong: more than the addresses there are, one line after the other by Text.
func TestP9_3ListLong(t *testing.T) {
	var p []byte
	for i := range 70000 {
		p = append(p, byte(i*i>>3+i*5))
	}
	var want []string
	for i := 0; i < len(p); {
		s, n := Text(p[i:], uint16((0x9000+i)%0x10000))
		want = append(want, s)
		i += n
	}
	if l := List(p, 0x9000); !slices.Equal(l, want) {
		t.Error("a line is not that of its address")
	}
}

func TestP9_4Examples(t *testing.T) {
	for _, c := range []struct {
		line string
		want string
	}{
		{"LDA #$05", "\xa9\x05"},
		{"STA $AB", "\x85\xab"},
		{"STA $00AB", "\x8d\xab\x00"},
		{"STX $F0,Y", "\x96\xf0"},
		{"LDA $1234,X", "\xbd\x34\x12"},
		{"LDA $1234,Y", "\xb9\x34\x12"},
		{"ORA ($FE,X)", "\x01\xfe"},
		{"SBC ($00),Y", "\xf1\x00"},
		{"JMP $CDEF", "\x4c\xef\xcd"},
		{"JMP ($CDEF)", "\x6c\xef\xcd"},
		{"BRK #$00", "\x00\x00"},
		{"NOP", "\xea"},
		{"NOP #$01", "\x80\x01"},
		{"NOP $01,X", "\x14\x01"},
		{"SBC #$01", "\xe9\x01"},
		{"ANC #$01", "\x0b\x01"},
		{"JAM", "\x02"},
		{"ASL", "\x0a"},
		{"BYTE $00", "\x00"},
		{"BYTE $A9", "\xa9"},
		{"BYTE $FF", "\xff"},
	} {
		if p, e := Parse(c.line, 0x8000); e != api.OK || string(p) != c.want {
			t.Errorf("%q: % x %d, want % x", c.line, p, e, c.want)
		}
	}
}

func TestP9_4Bytes(t *testing.T) {
	for b := range 256 {
		line := fmt.Sprintf("BYTE $%02X", b)
		if p, e := Parse(line, uint16(b*b)); e != api.OK || len(p) != 1 || int(p[0]) != b {
			t.Errorf("%q: % x %d", line, p, e)
		}
	}
}

func TestP9_4Wrong(t *testing.T) {
	for _, line := range []string{
		"", " ", "  ", "\n", "\x00", "$", "#$05", " $05", "FOO", "FOO $05", "LD #$05", "LDAA #$05", "BYT $05", "BYTES $05",
		"lda #$05", "Lda #$05", "nop", "byte $05", "LDA #$0a", "LDA #$0G", "LDA #$/5", "LDA #$0:", "LDA #$0@", "LDA $12,x", "LDA ($12),y",
		"LDA", "LDA ", "NOP ", " NOP", "NOP  ", "NOP\n", "NOP\x00", "ASL A", "ASL ", "JAM ", "NOP\t", "JAM $02",
		"LDA  #$05", " LDA #$05", "LDA #$05 ", "LDA\t#$05", "LDA# $05", "LDA#$05", "LDA # $05", "LDA #$ 05", "LDA #$0 5", "LDA $12, X", "LDA $12 ,X",
		"LDA #$", "LDA #$5", "LDA #$005", "LDA #$0505", "LDA #05", "LDA 05", "LDA $", "LDA $5", "LDA $505", "LDA $50505", "LDA $-5", "LDA $+5", "LDA $0x05", "LDA $0X",
		"LDA $05,", "LDA $05,Z", "LDA $05,XX", "LDA $05X", "LDA $5,X", "LDA $123,X", "LDA $12345,Y", "LDA #$05,X", "LDA (#$05,X)",
		"LDA ($05)", "LDA ($05", "LDA $05)", "LDA ($05,X", "LDA $05,X)", "LDA ($05,Y)", "LDA ($05),X", "LDA ($05,X),Y", "LDA ($0505,X)", "LDA ($0505),Y", "LDA ($0505)", "LDA ()", "LDA (),Y", "LDA (,X)",
		"STA #$05", "STX $05,X", "STX $0505,Y", "LDX $05,X", "LDA $05,Y", "LAS $05,Y", "JSR ($0505)", "JSR $05", "JMP $05", "JMP ($12)", "JMP $0505,X", "BRK", "BRK $05", "RTS $0505", "TAX #$05", "PHA $05", "NOP ($05),Y", "NOP ($0505)",
		"BNE", "BNE ", "BNE $05", "BNE #$05", "BNE ($0005)", "BNE $0005,X", "BNE $005", "BNE $0g05",
		"BYTE", "BYTE ", "BYTE $", "BYTE $1", "BYTE $123", "BYTE $1234", "BYTE #$12", "BYTE $12,X", "BYTE ($12)", "BYTE $1g", "BYTE  $12", "BYTE $12 ", "BYTE $ab", "BYTE $12 $13", "BYTE$12",
		"LDA #$\xc3\xa9", "LDA #$\xff\xff", "LDA #$\uff11", "LDA #$\uff10\uff15", "LDA \u0024\uff04", "\ufeffNOP", "LDA\u00a0#$05",
		"LDA #$05;", "LDA #$05\nLDA #$05", strings.Repeat("A", 100000), "LDA $" + strings.Repeat("0", 100000),
	} {
		for _, at := range []uint16{0, 3, 0x8000} {
			if p, e := Parse(line, at); e != api.ErrText || p != nil {
				t.Errorf("%.40q: % x %d", line, p, e)
			}
		}
	}
}

// TestP9_4Near: of lines with one character more, less or other, those that have a form of the document are right, and no others.
func TestP9_4Near(t *testing.T) {
	const at = 0x1000
	const others = "0AGaXYx$#(), /:\n\x00\xff"
	seen := map[string]int{}
	found := map[api.Errno]int{}
	try := func(line string) {
		seen[line]++
		if seen[line] > 1 {
			return
		}
		want, e := assembled(line, at)
		found[e]++
		if p, f := Parse(line, at); f != e || !bytes.Equal(p, want) {
			t.Fatalf("%q: % x %d, want % x %d", line, p, f, want, e)
		}
	}
	for b, k := range kinds() {
		line := k.line(b, 0x5c, at)
		for i := range len(line) {
			for _, c := range []byte(others) {
				try(line[:i] + string([]byte{c}) + line[i:])
				try(line[:i] + string([]byte{c}) + line[i+1:])
				try(line + string([]byte{c}))
			}
			try(line[:i] + line[i+1:])
			try(line[:i])
		}
	}
	if found[api.OK] < 1000 || found[api.ErrText] < 10000 || found[api.ErrOver] < 10 {
		t.Error(found)
	}
}

// TestP9_4Branches: every target, from addresses at which the range goes round.
func TestP9_4Branches(t *testing.T) {
	for _, at := range []int{0, 0x7d, 0x7e, 0x1000, 0x8000, 0xff7e, 0xff7f, 0xfffd, 0xfffe, 0xffff} {
		offsets := map[int]int{}
		for offset := range 256 {
			offsets[target(at, offset)] = offset
		}
		for to := range 0x10000 {
			p, e := Parse(fmt.Sprintf("BVS $%04X", to), uint16(at))
			offset, ok := offsets[to]
			if ok && (e != api.OK || string(p) != string([]byte{0x70, byte(offset)})) {
				t.Fatalf("from %04x to %04x: % x %d", at, to, p, e)
			}
			if !ok && (e != api.ErrOver || p != nil) {
				t.Fatalf("from %04x to %04x: % x %d", at, to, p, e)
			}
		}
	}
	for line, want := range map[string]api.Errno{
		"BNE $0081": api.OK, "BNE $0082": api.ErrOver, "BNE $FF82": api.OK, "BNE $FF81": api.ErrOver, "BNE $8002": api.ErrOver, "BNE $8001": api.ErrOver,
	} {
		if _, e := Parse(line, 0); e != want {
			t.Errorf("%s: %d", line, e)
		}
	}
}

// TestMemory: arguments stay as they are, and results are new.
func TestMemory(t *testing.T) {
	room := []byte{0xa9, 5, 0xad, 1, 2, 3}
	before := slices.Clone(room)
	Text(room[:1], 0)
	Text(room[2:4], 0)
	List(room[:3], 0)
	if !bytes.Equal(room, before) {
		t.Errorf("% x", room)
	}
	for _, line := range []string{"NOP", "LDA #$05", "LDA $1234", "BYTE $12", "BNE $0000"} {
		p, _ := Parse(line, 0)
		want := slices.Clone(p)
		q, _ := Parse(line, 0)
		q = q[:cap(q)]
		for i := range q {
			q[i]++
		}
		if r, _ := Parse(line, 0); !bytes.Equal(p, want) || !bytes.Equal(r, want) {
			t.Errorf("%s: % x % x", line, p, r)
		}
	}
	l := List([]byte{0xea, 0xea}, 0)
	l[0] = "JAM"
	if m := List([]byte{0xea, 0xea}, 0); m[0] != "NOP" || l[1] != "NOP" {
		t.Error(l, m)
	}
	c := Of(0xa9)
	c.Mode = Zp
	if d := Of(0xa9); d.Mode != Imm {
		t.Error(d)
	}
}

func FuzzParse(f *testing.F) {
	f.Add("LDA #$05", uint16(0))
	f.Add("BNE $0010", uint16(0x10))
	f.Add("BYTE $1A", uint16(0))
	f.Add("JMP ($C000)", uint16(0))
	f.Fuzz(func(t *testing.T, line string, at uint16) {
		p, e := Parse(line, at)
		if e != api.OK {
			if p != nil || e != api.ErrText && e != api.ErrOver {
				t.Fatal(p, e)
			}
			return
		}
		if s, n := Text(p, at); !strings.HasPrefix(line, "BYTE ") && (s != line || n != len(p)) {
			t.Fatalf("%q: % x, which is %q", line, p, s)
		}
	})
}
