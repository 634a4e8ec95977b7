package core

import (
	"strings"
	"testing"

	"kotatsu/alu"
)

// nops is a machine with these flags, NOPs everywhere, and all vectors set.
func nops(p byte) *machine {
	m := at(Regs{U: alu.Unit{S: 0x80, P: p}, PC: 0x8000})
	for i := range m.mem {
		m.mem[i] = 0xea
	}
	m.put(0xfffa, 0x00, 0x91, 0x00, 0x90, 0x00, 0x92)
	return m
}

// begun tells for each cycle what begins in it (x an instruction, N an NMI, I an IRQ, R a reset, - nothing), and at last what comes next, if something begins.
// The lines of each cycle are a character: n (nmi), i (irq), b (both) or a dot.
func begun(m *machine, lines string) string {
	var s strings.Builder
	for _, line := range lines {
		s.WriteString(ahead(m, "-"))
		m.nmi = line == 'n' || line == 'b'
		m.irq = line == 'i' || line == 'b'
		m.cycle()
	}
	s.WriteString(ahead(m, ""))
	return s.String()
}

// ahead looks in a copy at what comes next.
func ahead(m *machine, midst string) string {
	if !m.c.Ready() {
		return midst
	}
	o := *m
	o.c = m.c.Copy()
	l := strings.Fields(o.run())
	if len(l) != 7 || l[1] != l[0] {
		return "x"
	}
	return map[string]string{"fffb": "N", "fffd": "R", "ffff": "I"}[l[6]]
}

func TestP10_2Lines(t *testing.T) {
	for _, c := range []struct {
		p           byte
		lines, want string
		why         string
	}{
		{0, "....", "x-x-x", "no lines"},
		{0, ".i", "x-I", "an IRQ in the last cycle"},
		{0, "i.", "x-x", "an IRQ in another cycle"},
		{0, "i..i", "x-x-I", "the last cycle of another instruction"},
		{alu.Mask, "iiii", "x-x-x", "an IRQ that is masked"},
		{0xff &^ alu.Mask, "ii", "x-I", "other flags do not matter"},
		{0, "ii.......", "x-I------x", "the line is let go"},
		{0, ".iiiiiiiiii", "x-I------x-x", "the sequence masks it"},
		{0, ".n", "x-N", "an NMI in the last cycle"},
		{0, "n.", "x-N", "an NMI in another cycle"},
		{0, "..n.", "x-x-N", "an NMI later"},
		{alu.Mask, "n.", "x-N", "an NMI is not masked"},
		{0, ".b", "x-N", "the NMI comes first"},
		{0, "ni", "x-N", "the pending NMI comes first"},
		{0, ".nnnnnnnnnn", "x-N------x-x", "a line that stays makes one NMI"},
		{0, ".n.n.....", "x-N------N", "an NMI in an NMI's sequence"},
		{0, ".nnnnnn.n", "x-N------N", "in the last cycle of it"},
		{0, ".nnnnnnn.n.", "x-N------x-N", "in the first cycle behind it"},
		{0, ".n.n.n.n........", "x-N------N------x", "several are one"},
		{0, ".bbbbbbbb", "x-N------x", "an IRQ is masked by an NMI's sequence"},
		{0, ".i.n.....", "x-I------N", "an NMI in an IRQ's sequence leaves that as it is"},
		{0, ".i......n", "x-I------N", "in the last cycle of it"},
		{0, ".i......nnnnnnnn", "x-I------N------x", "and then no more"},
	} {
		if s := begun(nops(c.p), c.lines); s != c.want {
			t.Errorf("%s: %s: %s, want %s", c.why, c.lines, s, c.want)
		}
	}
}

// TestP10_2LinesOfReset: what follows a reset sequence.
func TestP10_2LinesOfReset(t *testing.T) {
	for _, c := range []struct{ lines, want string }{
		{".......", "R------x"},
		{"iiiiiii", "R------x"},
		{"n......", "R------N"},
		{"......n", "R------N"},
		{"nnnnnnnnnnnnnnnn", "R------N------x-x"},
		{"bbbbbbb", "R------N"},
	} {
		m := nops(0)
		m.c.Reset()
		if s := begun(m, c.lines); s != c.want {
			t.Errorf("%s: %s, want %s", c.lines, s, c.want)
		}
		m = nops(0)
		m.c = New()
		if s := begun(m, c.lines); s != c.want {
			t.Errorf("new, %s: %s, want %s", c.lines, s, c.want)
		}
	}
}

// TestP10_2Mask: the Mask that counts is the one that the instruction leaves.
func TestP10_2Mask(t *testing.T) {
	for _, c := range []struct {
		p       byte
		program byte
		pulled  byte
		lines   string
		want    string
	}{
		{alu.Mask, 0x58, 0, "ii", "x-I"},             // CLI
		{0, 0x78, 0, "ii", "x-x"},                    // SEI
		{alu.Mask, 0x28, 0, "iiii", "x---I"},         // PLP
		{0, 0x28, alu.Mask, "iiii", "x---x"},         // PLP
		{alu.Mask, 0x40, 0, "iiiiii", "x-----I"},     // RTI
		{0, 0x40, alu.Mask, "iiiiii", "x-----x"},     // RTI
		{0, 0x00, 0, "iiiiiii", "x------x"},          // BRK
		{0, 0x00, 0, "..n....", "x------N"},          // BRK goes on by its own vector
		{0, 0x02, 0, "bbbbbbbbbbbb", "x-----------"}, // JAM
	} {
		m := nops(c.p)
		m.put(0x8000, c.program)
		m.put(0x181, c.pulled)
		if s := begun(m, c.lines); s != c.want {
			t.Errorf("%02x with %02x: %s: %s, want %s", c.program, c.p, c.lines, s, c.want)
		}
	}
}

func TestP10_5NMI(t *testing.T) {
	m := nops(0xcf)
	m.nmi = true
	m.want(t, "8000 8001")
	m.want(t, "8001 8001 0180=80 017f=01 017e=ef fffa fffb")
	m.regs(t, Regs{U: alu.Unit{S: 0x7d, P: 0xef}, PC: 0x9100})
	m.want(t, "9100 9101")

	m = nops(0)
	m.c = From(Regs{U: alu.Unit{A: 1, X: 2, Y: 3, S: 1, P: alu.Zero}, PC: 0xffff})
	m.mem[0xffff] = 0xea
	m.nmi = true
	m.want(t, "ffff 0000")
	m.want(t, "0000 0000 0101=00 0100=00 01ff=22 fffa fffb")
	m.regs(t, Regs{U: alu.Unit{A: 1, X: 2, Y: 3, S: 0xfe, P: fixed | alu.Zero | alu.Mask}, PC: 0x9100})
}

func TestP10_5IRQ(t *testing.T) {
	m := nops(0xcb)
	m.irq = true
	m.want(t, "8000 8001")
	m.regs(t, Regs{U: alu.Unit{S: 0x80, P: 0xeb}, PC: 0x8001})
	m.want(t, "8001 8001 0180=80 017f=01 017e=eb fffe ffff")
	m.regs(t, Regs{U: alu.Unit{S: 0x7d, P: 0xef}, PC: 0x9200})
	m.mem[0x9200] = 0x40
	m.irq = false
	m.want(t, "9200 9201 017d 017e 017f 0180")
	m.regs(t, Regs{U: alu.Unit{S: 0x80, P: 0xeb}, PC: 0x8001})
}

func TestP10_5Reset(t *testing.T) {
	m := nops(0xcb)
	m.want(t, "8000 8001")
	m.c.Reset()
	m.regs(t, Regs{U: alu.Unit{S: 0x80, P: 0xeb}, PC: 0x8001})
	m.want(t, "8001 8001 0180 017f 017e fffc fffd")
	m.regs(t, Regs{U: alu.Unit{S: 0x7d, P: 0xef}, PC: 0x9000})
	m.want(t, "9000 9001")
}

// TestP10_5Midst: in a sequence the registers are still those ahead of it, and nothing is ready.
func TestP10_5Midst(t *testing.T) {
	for _, line := range "nir" {
		m := nops(0)
		m.nmi, m.irq = line == 'n', line == 'i'
		m.run()
		if line == 'r' {
			m.c.Reset()
		}
		for i := range 7 {
			m.regs(t, Regs{U: alu.Unit{S: 0x80, P: fixed}, PC: 0x8001})
			if m.c.Ready() != (i == 0) || m.c.Jammed() {
				t.Errorf("%c: cycle %d", line, i)
			}
			m.cycle()
		}
		if !m.c.Ready() || m.c.Regs().PC < 0x9000 {
			t.Errorf("%c: %v", line, m.c.Regs())
		}
	}
}
