package code

import (
	"slices"
	"strings"
	"testing"

	"kotatsu/alu"
)

func TestP9_1Modes(t *testing.T) {
	if !slices.Equal([]int{Imp, Imm, Zp, Zpx, Zpy, Abs, Abx, Aby, Izx, Izy, Rel, Ind}, []int{0, 1, 2, 3, 4, 5, 6, 7, 8, 9, 10, 11}) {
		t.Error("modes")
	}
}

func TestP9_1Of(t *testing.T) {
	l := kinds()
	if len(l) != 256 {
		t.Fatal(len(l))
	}
	for b, k := range l {
		if c := Of(byte(b)); c != k.code() || alu.Name(c.Op) != k.name {
			t.Errorf("%02x: %+v, want %s%c", b, c, k.name, k.mark)
		}
	}
	for b, want := range map[byte]Code{
		0x00: {alu.Brk, Imm}, 0x02: {alu.Jam, Imp}, 0x0a: {alu.Asl, Imp}, 0x20: {alu.Jsr, Abs}, 0x6c: {alu.Jmp, Ind}, 0x9f: {alu.Jam, Imp},
		0xa9: {alu.Lda, Imm}, 0xb6: {alu.Ldx, Zpy}, 0xbb: {alu.Las, Aby}, 0xeb: {alu.Sbc, Imm}, 0xff: {alu.Isc, Abx},
	} {
		if c := Of(b); c != want {
			t.Errorf("%02x: %+v, want %+v", b, c, want)
		}
	}
}

// TestP9_1Byte: every code that there can be, with an opcode or without.
func TestP9_1Byte(t *testing.T) {
	opcodes := map[Code]byte{}
	for b, k := range kinds() {
		if _, ok := opcodes[k.code()]; !ok {
			opcodes[k.code()] = byte(b)
		}
	}
	opcodes[Code{alu.Nop, Imp}] = 0xea
	for op := range 256 {
		for mode := range 256 {
			c := Code{byte(op), byte(mode)}
			want, has := opcodes[c]
			if b, ok := c.Byte(); b != want || ok != has {
				t.Fatalf("%+v: %02x %t, want %02x %t", c, b, ok, want, has)
			}
		}
	}
}

func TestP9_1ByteExamples(t *testing.T) {
	for _, c := range []struct {
		c  Code
		b  byte
		ok bool
	}{
		{Code{alu.Nop, Imp}, 0xea, true},
		{Code{alu.Nop, Imm}, 0x80, true},
		{Code{alu.Nop, Zp}, 0x04, true},
		{Code{alu.Nop, Zpx}, 0x14, true},
		{Code{alu.Nop, Abs}, 0x0c, true},
		{Code{alu.Nop, Abx}, 0x1c, true},
		{Code{alu.Nop, Zpy}, 0, false},
		{Code{alu.Sbc, Imm}, 0xe9, true},
		{Code{alu.Anc, Imm}, 0x0b, true},
		{Code{alu.Jam, Imp}, 0x02, true},
		{Code{alu.Brk, Imm}, 0x00, true},
		{Code{alu.Brk, Imp}, 0, false},
		{Code{alu.Sta, Imm}, 0, false},
		{Code{alu.Jsr, Ind}, 0, false},
		{Code{alu.Bne, Abs}, 0, false},
		{Code{alu.Jmp, Rel}, 0, false},
		{Code{alu.Lda, 12}, 0, false},
		{Code{alu.Jam + 1, Imp}, 0, false},
		{Code{255, 255}, 0, false},
	} {
		if b, ok := c.c.Byte(); b != c.b || ok != c.ok {
			t.Errorf("%s %+v: %02x %t", alu.Name(c.c.Op), c.c, b, ok)
		}
	}
}

// TestP9_1Repeated: these opcodes, and no others, are not the Byte of their codes.
func TestP9_1Repeated(t *testing.T) {
	n := 0
	for i := range 256 {
		b, ok := Of(byte(i)).Byte()
		if !ok || (int(b) != i) != single(i) {
			t.Errorf("%02x: %02x %t", i, b, ok)
		}
		if int(b) != i {
			n++
		}
	}
	if n != len(strings.Fields(repeated)) {
		t.Error(n)
	}
}

func TestP9_1Size(t *testing.T) {
	sizes := []int{1, 2, 2, 2, 2, 3, 3, 3, 2, 2, 2, 3}
	for mode := range 256 {
		want := 0
		if mode < len(sizes) {
			want = sizes[mode]
		}
		for op := range 256 {
			if n := (Code{byte(op), byte(mode)}).Size(); n != want {
				t.Fatalf("operation %d, mode %d: %d, want %d", op, mode, n, want)
			}
		}
	}
}

// cycles are those of the processor by their opcodes: + stands behind what takes one more where an index crosses a page, r behind a branch; a processor that halts has none.
const cycles = `
7 6 0 8 3 3 5 5 3 2 2 2 4 4 6 6
2r 5+ 0 8 4 4 6 6 2 4+ 2 7 4+ 4+ 7 7
6 6 0 8 3 3 5 5 4 2 2 2 4 4 6 6
2r 5+ 0 8 4 4 6 6 2 4+ 2 7 4+ 4+ 7 7
6 6 0 8 3 3 5 5 3 2 2 2 3 4 6 6
2r 5+ 0 8 4 4 6 6 2 4+ 2 7 4+ 4+ 7 7
6 6 0 8 3 3 5 5 4 2 2 2 5 4 6 6
2r 5+ 0 8 4 4 6 6 2 4+ 2 7 4+ 4+ 7 7
2 6 2 6 3 3 3 3 2 2 2 0 4 4 4 4
2r 6 0 0 4 4 4 4 2 5 2 0 0 5 0 0
2 6 2 6 3 3 3 3 2 2 2 0 4 4 4 4
2r 5+ 0 5+ 4 4 4 4 2 4+ 2 4+ 4+ 4+ 4+ 4+
2 6 2 8 3 3 5 5 2 2 2 2 4 4 6 6
2r 5+ 0 8 4 4 6 6 2 4+ 2 7 4+ 4+ 7 7
2 6 2 8 3 3 5 5 2 2 2 2 4 4 6 6
2r 5+ 0 8 4 4 6 6 2 4+ 2 7 4+ 4+ 7 7`

func TestP9_2All(t *testing.T) {
	l := strings.Fields(cycles)
	if len(l) != 256 {
		t.Fatal(len(l))
	}
	for b, word := range l {
		for _, crosses := range []bool{false, true} {
			for _, takes := range []bool{false, true} {
				want := int(word[0] - '0')
				if crosses && strings.HasSuffix(word, "+") {
					want++
				}
				if takes && strings.HasSuffix(word, "r") {
					want++
					if crosses {
						want++
					}
				}
				if n := Of(byte(b)).Steps(crosses, takes); n != want {
					t.Errorf("%02x %t %t: %d, want %d", b, crosses, takes, n, want)
				}
			}
		}
	}
}

// TestP9_2None: what has no opcode takes no cycles, whatever its mode would take.
func TestP9_2None(t *testing.T) {
	has := map[Code]bool{}
	for _, k := range kinds() {
		has[k.code()] = k.name != "JAM"
	}
	for op := range 256 {
		for mode := range 256 {
			c := Code{byte(op), byte(mode)}
			for i := range 4 {
				if n := c.Steps(i&1 == 1, i&2 == 2); (n != 0) != has[c] {
					t.Fatalf("%+v: %d", c, n)
				}
			}
		}
	}
}

func BenchmarkOf(b *testing.B) {
	for i := range b.N {
		Of(byte(i))
	}
}

func BenchmarkList(b *testing.B) {
	p := make([]byte, 0x10000)
	for i := range p {
		p[i] = byte(i * 7 >> 3)
	}
	for range b.N {
		List(p, 0)
	}
}
