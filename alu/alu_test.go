package alu

import (
	"slices"
	"strings"
	"testing"
)

// The names, by the words of the document.
const (
	readNames   = "NOP ORA AND EOR ADC SBC CMP CPX CPY LDA LDX LDY BIT LAX ANC ALR ARR AXS LAS"
	changeNames = "ASL LSR ROL ROR INC DEC SLO RLA SRE RRA DCP ISC"
	storeNames  = "STA STX STY SAX"
	selfNames   = "TAX TAY TXA TYA TSX TXS INX INY DEX DEY CLC SEC CLI SEI CLV CLD SED"
	branchNames = "BPL BMI BVC BVS BCC BCS BNE BEQ"
	flowNames   = "JMP JSR RTS RTI BRK PHA PHP PLA PLP JAM"
)

// named calls try for each operation of a list, whose first has that number.
func named(names string, first int, try func(op byte, name string)) {
	for i, name := range strings.Fields(names) {
		try(byte(first+i), name)
	}
}

// units calls try for units in which each register takes all values, with carry and without, and with all other flags or none.
func units(try func(u Unit)) {
	for r := range 256 {
		for _, mix := range []byte{0x00, 0x5a, 0xf0} {
			for _, p := range []byte{0, Carry, 0xff - Carry, 0xff} {
				try(Unit{A: byte(r), X: byte(r) ^ mix, Y: byte(r) + 0x33, S: byte(r)*5 + 1, P: p})
			}
		}
	}
}

func TestP8_1Numbers(t *testing.T) {
	for i, n := range []int{Carry, Zero, Mask, Decimal, Break, Fixed, Over, Minus} {
		if n != 1<<i {
			t.Errorf("flag %d is %d", i, n)
		}
	}
	if !slices.Equal([]int{None, Reads, Changes, Stores, Selfs, Branches, Flows}, []int{0, 1, 2, 3, 4, 5, 6}) {
		t.Error("kinds")
	}
	for i, n := range []int{
		Nop, Ora, And, Eor, Adc, Sbc, Cmp, Cpx, Cpy, Lda, Ldx, Ldy, Bit, Lax, Anc, Alr, Arr, Axs, Las,
		Asl, Lsr, Rol, Ror, Inc, Dec, Slo, Rla, Sre, Rra, Dcp, Isc, Sta, Stx, Sty, Sax,
		Tax, Tay, Txa, Tya, Tsx, Txs, Inx, Iny, Dex, Dey, Clc, Sec, Cli, Sei, Clv, Cld, Sed,
		Bpl, Bmi, Bvc, Bvs, Bcc, Bcs, Bne, Beq, Jmp, Jsr, Rts, Rti, Brk, Pha, Php, Pla, Plp, Jam,
	} {
		if n != i {
			t.Errorf("operation %d is %d", i, n)
		}
	}
}

func TestP8_1Names(t *testing.T) {
	next := 0
	for i, names := range []string{readNames, changeNames, storeNames, selfNames, branchNames, flowNames} {
		named(names, next, func(op byte, name string) {
			if Name(op) != name || Kind(op) != byte(i+1) {
				t.Errorf("%d: %q of kind %d, want %s of kind %d", op, Name(op), Kind(op), name, i+1)
			}
			if n, ok := Find(name); !ok || n != op {
				t.Errorf("%s: %d %t", name, n, ok)
			}
			next++
		})
	}
	if next != 70 {
		t.Error(next)
	}
	for op := next; op < 256; op++ {
		if Name(byte(op)) != "" || Kind(byte(op)) != None {
			t.Errorf("%d: %q of kind %d", op, Name(byte(op)), Kind(byte(op)))
		}
	}
}

func TestP8_1FindNothing(t *testing.T) {
	for _, name := range []string{"", " ", "lda", "Lda", "LD", "LDAA", " LDA", "LDA ", "ORAAND", "PAN", "OPO", "AM", "JAMNOP", "STP", "N\x00P", "\xff\xff\xff", "SHA", "J\u00c4M"} {
		if op, ok := Find(name); op != 0 || ok {
			t.Errorf("%q: %d %t", name, op, ok)
		}
	}
}

func TestP8_2Flag(t *testing.T) {
	for p := range 256 {
		for bits := range 256 {
			u := Unit{A: 1, X: 2, Y: 3, S: 4, P: byte(p)}
			on, off := u, u
			on.P |= byte(bits)
			off.P &= 255 - byte(bits)
			if u.Flag(byte(bits), true) != on || u.Flag(byte(bits), false) != off {
				t.Fatalf("bits %x of %x", bits, p)
			}
		}
	}
}

// TestP8_2Keep: what a rule does not mention stays.
func TestP8_2Keep(t *testing.T) {
	const sz = Minus | Zero
	touched := map[string]byte{
		"NOP": 0, "ADC": sz | Carry | Over, "SBC": sz | Carry | Over, "CMP": sz | Carry, "CPX": sz | Carry, "CPY": sz | Carry,
		"BIT": sz | Over, "ANC": sz | Carry, "ALR": sz | Carry, "ARR": sz | Carry | Over, "AXS": sz | Carry,
	}
	named(readNames, Nop, func(op byte, name string) {
		may, ok := touched[name]
		if !ok {
			may = sz
		}
		units(func(u Unit) {
			for m := 0; m < 256; m += 3 {
				if x := u.Read(op, byte(m)); (x.P^u.P)&^may != 0 {
					t.Fatalf("%s %02x of %+v: %+v", name, m, u, x)
				}
			}
		})
	})
}

func TestP8_3All(t *testing.T) {
	named(readNames, Nop, func(op byte, name string) {
		units(func(u Unit) {
			for m := range 256 {
				k := modelOf(u)
				k.read(name, m)
				if x := u.Read(op, byte(m)); x != k.unit() {
					t.Fatalf("%s %02x of %+v: %+v, want %+v", name, m, u, x, k.unit())
				}
			}
		})
	})
}

func TestP8_3Examples(t *testing.T) {
	for _, c := range []struct {
		what    string
		u       Unit
		op, m   byte
		a, x, p byte
	}{
		{"the document's", Unit{A: 0x50}, Adc, 0x50, 0xa0, 0, Over | Minus},
		{"two negative numbers", Unit{A: 0x80}, Adc, 0x80, 0, 0, Over | Carry | Zero},
		{"only the carry overflows", Unit{A: 0x7f, P: Carry}, Adc, 0, 0x80, 0, Over | Minus},
		{"the carry alone", Unit{A: 0xff, P: Carry}, Adc, 0, 0, 0, Carry | Zero},
		{"an old carry and overflow go", Unit{A: 1, P: Over}, Adc, 1, 2, 0, 0},
		{"no decimal numbers", Unit{A: 9, P: Decimal}, Adc, 1, 10, 0, Decimal},
		{"no decimal numbers either", Unit{A: 0x10, P: Decimal | Carry}, Sbc, 1, 15, 0, Decimal | Carry},
		{"borrowed", Unit{A: 0x50}, Sbc, 0x50, 0xff, 0, Minus},
		{"overflow below", Unit{A: 0x80, P: Carry}, Sbc, 1, 0x7f, 0, Over | Carry},
		{"equal", Unit{A: 5, P: Minus}, Cmp, 5, 5, 0, Carry | Zero},
		{"less", Unit{A: 5, P: Carry | Over}, Cmp, 6, 5, 0, Minus | Over},
		{"more", Unit{A: 0xff}, Cmp, 1, 0xff, 0, Carry | Minus},
		{"the index", Unit{A: 9, X: 5}, Cpx, 4, 9, 5, Carry},
		{"bits of the operand", Unit{A: 1}, Bit, 0xc0, 1, 0, Minus | Over | Zero},
		{"bits in common", Unit{A: 1, P: Minus | Over | Zero}, Bit, 0x01, 1, 0, 0},
		{"both", Unit{A: 1, X: 2}, Lax, 0x80, 0x80, 0x80, Minus},
		{"the sign is the carry", Unit{A: 0xf0}, Anc, 0x8f, 0x80, 0, Minus | Carry},
		{"no sign, no carry", Unit{A: 0xf0, P: Carry}, Anc, 0x70, 0x70, 0, 0},
		{"the bit shifted out", Unit{A: 3, P: Carry}, Alr, 1, 0, 0, Carry | Zero},
		{"bits 6 and 5", Unit{A: 0xff}, Arr, 0xc0, 0x60, 0, Carry},
		{"bit 5 alone", Unit{A: 0xff, P: Carry}, Arr, 0x40, 0xa0, 0, Over | Minus},
		{"the bit shifted out is lost", Unit{A: 1}, Arr, 1, 0, 0, Zero},
		{"without the carry", Unit{A: 0xf0, X: 0x3f}, Axs, 0x31, 0xf0, 0xff, Minus},
		{"equal", Unit{A: 0xf0, X: 0x3f}, Axs, 0x30, 0xf0, 0, Carry | Zero},
		{"nothing", Unit{A: 1, X: 2, P: 0xff}, Nop, 3, 1, 2, 0xff},
	} {
		want := c.u
		want.A, want.X, want.P = c.a, c.x, c.p
		if x := c.u.Read(c.op, c.m); x != want {
			t.Errorf("%s: %s: %+v, want %+v", Name(c.op), c.what, x, want)
		}
	}
	if x := (Unit{A: 1, X: 2, Y: 3, S: 0xf1, P: Zero}).Read(Las, 0x8f); x != (Unit{A: 0x81, X: 0x81, Y: 3, S: 0x81, P: Minus}) {
		t.Errorf("LAS: %+v", x)
	}
}

func TestP8_4All(t *testing.T) {
	named(changeNames, Asl, func(op byte, name string) {
		units(func(u Unit) {
			for m := range 256 {
				k := modelOf(u)
				want := k.change(name, m)
				if x, b := u.Change(op, byte(m)); x != k.unit() || int(b) != want {
					t.Fatalf("%s %02x of %+v: %+v %02x, want %+v %02x", name, m, u, x, b, k.unit(), want)
				}
			}
		})
	})
}

func TestP8_4Examples(t *testing.T) {
	for _, c := range []struct {
		what    string
		a, p    byte
		op, m   byte
		a2, p2  byte
		becomes byte
	}{
		{"out and nothing in", 7, 0, Asl, 0x80, 7, Carry | Zero, 0},
		{"the carry does not go in", 7, Carry, Asl, 0x40, 7, Minus, 0x80},
		{"out and nothing in", 7, Carry, Lsr, 1, 7, Carry | Zero, 0},
		{"no sign", 7, Carry | Minus, Lsr, 0x80, 7, 0, 0x40},
		{"the old carry goes in, the new one out", 7, Carry, Rol, 0x80, 7, Carry, 1},
		{"no carry", 7, 0, Rol, 0x80, 7, Carry | Zero, 0},
		{"the old carry goes in, the new one out", 7, Carry, Ror, 1, 7, Carry | Minus, 0x80},
		{"no carry", 7, 0, Ror, 2, 7, 0, 1},
		{"round", 7, Carry, Inc, 0xff, 7, Carry | Zero, 0},
		{"round", 7, 0, Dec, 0, 7, Minus, 0xff},
		{"sign and zero of A", 0x80, 0, Slo, 0x80, 0x80, Carry | Minus, 0},
		{"sign and zero of A", 1, Carry, Rla, 0xc0, 1, Carry, 0x81},
		{"sign and zero of A", 1, 0, Sre, 3, 0, Carry | Zero, 1},
		{"the new carry is added", 1, 0, Rra, 3, 3, 0, 1},
		{"the old carry is shifted in", 1, Carry, Rra, 2, 0x82, Minus, 0x81},
		{"compared", 5, Minus, Dcp, 6, 5, Carry | Zero, 5},
		{"compared with more", 5, Carry, Dcp, 0, 5, 0, 0xff},
		{"borrowed", 5, 0, Isc, 4, 0xff, Minus, 5},
		{"not borrowed", 5, Carry, Isc, 4, 0, Carry | Zero, 5},
	} {
		x, m := (Unit{A: c.a, X: 1, Y: 2, S: 3, P: c.p}).Change(c.op, c.m)
		if x != (Unit{A: c.a2, X: 1, Y: 2, S: 3, P: c.p2}) || m != c.becomes {
			t.Errorf("%s: %s: %+v %02x", Name(c.op), c.what, x, m)
		}
	}
}

func TestP8_5Self(t *testing.T) {
	try := func(op byte, name string) {
		units(func(u Unit) {
			k := modelOf(u)
			k.self(name)
			if x := u.Self(op); x != k.unit() {
				t.Fatalf("%s of %+v: %+v, want %+v", name, u, x, k.unit())
			}
		})
	}
	named(selfNames, Tax, try)
	named("ASL LSR ROL ROR", Asl, try)
	if x := (Unit{X: 0x80, S: 1, P: Zero}).Self(Txs); x != (Unit{X: 0x80, S: 0x80, P: Zero}) {
		t.Errorf("TXS: %+v", x)
	}
	if x := (Unit{X: 5, S: 0x80, P: Zero}).Self(Tsx); x != (Unit{X: 0x80, S: 0x80, P: Minus}) {
		t.Errorf("TSX: %+v", x)
	}
	if x := (Unit{A: 0x81, P: Carry}).Self(Ror); x != (Unit{A: 0xc0, P: Carry | Minus}) {
		t.Errorf("ROR: %+v", x)
	}
}

func TestP8_5Store(t *testing.T) {
	for a := range 256 {
		for x := range 256 {
			u := Unit{A: byte(a), X: byte(x), Y: byte(a + 3*x), S: 0x77, P: byte(x)}
			if u.Store(Sta) != u.A || u.Store(Stx) != u.X || u.Store(Sty) != u.Y || int(u.Store(Sax)) != a&x {
				t.Fatalf("%+v", u)
			}
		}
	}
}

func TestP8_5Takes(t *testing.T) {
	named(branchNames, Bpl, func(op byte, name string) {
		for p := range 256 {
			u := Unit{P: byte(p)}
			if u.Takes(op) != modelOf(u).takes(name) {
				t.Errorf("%s with %02x", name, p)
			}
		}
	})
	for op := Bpl; op <= Beq; op++ {
		if (Unit{}).Takes(byte(op)) != (op%2 == Bpl%2) || (Unit{P: 0xff}).Takes(byte(op)) != (op%2 != Bpl%2) {
			t.Error(Name(byte(op)))
		}
	}
}

func TestOtherKinds(t *testing.T) {
	for n := range 256 {
		op := byte(n)
		for _, u := range []Unit{{}, {1, 2, 3, 4, 5}, {0xff, 0xfe, 0xfd, 0xfc, 0xff}, {0x80, 0, 0x80, 0, 0xaa}} {
			for _, m := range []byte{0, 1, 0x80, 0xff} {
				if x := u.Read(op, m); n > 18 && x != u {
					t.Errorf("read %d: %+v", n, x)
				}
				if x, b := u.Change(op, m); (n < 19 || n > 30) && (x != u || b != m) {
					t.Errorf("change %d: %+v %d", n, x, b)
				}
			}
			if x := u.Self(op); (n < 35 || n > 51) && (n < 19 || n > 22) && x != u {
				t.Errorf("self %d: %+v", n, x)
			}
			if b := u.Store(op); (n < 31 || n > 34) && b != 0 {
				t.Errorf("store %d: %d", n, b)
			}
			if ok := u.Takes(op); (n < 52 || n > 59) && ok {
				t.Errorf("takes %d", n)
			}
		}
	}
}
