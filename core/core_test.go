package core

import (
	"fmt"
	"strings"
	"testing"

	"kotatsu/alu"
)

// machine is a core with a memory, whose lines a test sets.
type machine struct {
	c        *Core
	mem      [0x10000]byte
	irq, nmi bool
}

// at returns a machine with these registers, and a program at PC.
func at(r Regs, program ...byte) *machine {
	m := &machine{c: From(r)}
	m.put(r.PC, program...)
	return m
}

func (m *machine) put(at uint16, l ...byte) {
	for i, b := range l {
		m.mem[at+uint16(i)] = b
	}
}

// cycle executes a cycle, and tells it: the address, and for a write an equals sign and the byte.
func (m *machine) cycle() string {
	a := m.c.Wants()
	if a.Put {
		m.mem[a.At] = a.B
		m.c.Clock(^a.B, m.irq, m.nmi)
		return fmt.Sprintf("%04x=%02x", a.At, a.B)
	}
	m.c.Clock(m.mem[a.At], m.irq, m.nmi)
	if a.B != 0 {
		return "a read with a byte"
	}
	return fmt.Sprintf("%04x", a.At)
}

// run executes an instruction or sequence (or a dozen cycles of it), and tells its cycles.
func (m *machine) run() string {
	l := []string{m.cycle()}
	for !m.c.Ready() && len(l) < 12 {
		l = append(l, m.cycle())
	}
	return strings.Join(l, " ")
}

func (m *machine) want(t *testing.T, cycles string) {
	t.Helper()
	if s := m.run(); s != cycles {
		t.Errorf("%s\nwant %s", s, cycles)
	}
}

func (m *machine) regs(t *testing.T, want Regs) {
	t.Helper()
	if r := m.c.Regs(); r != want {
		t.Errorf("%x\nwant %x", r, want)
	}
}

const fixed = alu.Fixed

func TestP10_1Example(t *testing.T) {
	c := From(Regs{PC: 0x8000})
	if a := c.Wants(); a != (Access{At: 0x8000}) {
		t.Error(a)
	}
	c.Clock(0xa9, false, false)
	if a := c.Wants(); a != (Access{At: 0x8001}) || c.Ready() {
		t.Error(a)
	}
	c.Clock(5, false, false)
	if c.Regs() != (Regs{U: alu.Unit{A: 5, P: fixed}, PC: 0x8002}) || !c.Ready() {
		t.Error(c.Regs())
	}
}

// TestP10_1Flags: whatever a program does, Fixed is set in P and Break is not.
func TestP10_1Flags(t *testing.T) {
	for p := range 256 {
		want := byte(p)&0xef | 0x20
		m := at(Regs{U: alu.Unit{S: 0x80, P: byte(p)}, PC: 0x8000}, 0x08)
		m.regs(t, Regs{U: alu.Unit{S: 0x80, P: want}, PC: 0x8000})
		m.want(t, fmt.Sprintf("8000 8001 0180=%02x", p|0x30))

		m = at(Regs{U: alu.Unit{S: 0x80}, PC: 0x8000}, 0x28)
		m.put(0x181, byte(p))
		m.want(t, "8000 8001 0180 0181")
		m.regs(t, Regs{U: alu.Unit{S: 0x81, P: want}, PC: 0x8001})

		m = at(Regs{U: alu.Unit{S: 0x80}, PC: 0x8000}, 0x40)
		m.put(0x181, byte(p), 0x34, 0x12)
		m.want(t, "8000 8001 0180 0181 0182 0183")
		m.regs(t, Regs{U: alu.Unit{S: 0x83, P: want}, PC: 0x1234})

		m = at(Regs{U: alu.Unit{S: 0x80, P: byte(p)}, PC: 0x8000}, 0x00)
		m.put(0xfffe, 0x34, 0x12)
		m.want(t, fmt.Sprintf("8000 8001 0180=80 017f=02 017e=%02x fffe ffff", p|0x30))
		m.regs(t, Regs{U: alu.Unit{S: 0x7d, P: want | 4}, PC: 0x1234})
	}
}

func TestP10_1Wants(t *testing.T) {
	m := at(Regs{U: alu.Unit{A: 7}, PC: 0x8000}, 0x85, 0x10)
	for i, want := range []Access{{At: 0x8000}, {At: 0x8001}, {At: 0x10, Put: true, B: 7}} {
		for range 3 {
			if a := m.c.Wants(); a != want {
				t.Error(i, a)
			}
		}
		m.cycle()
	}
}

func TestP10_2New(t *testing.T) {
	c := New()
	if c.Regs() != (Regs{U: alu.Unit{P: fixed}}) || !c.Ready() || c.Jammed() || c.Wants() != (Access{}) {
		t.Error(c.Regs(), c.Ready(), c.Jammed(), c.Wants())
	}
	m := &machine{c: c}
	m.put(0xfffc, 0x34, 0x12)
	m.want(t, "0000 0000 0100 01ff 01fe fffc fffd")
	m.regs(t, Regs{U: alu.Unit{S: 0xfd, P: fixed | alu.Mask}, PC: 0x1234})
	if New() == New() {
		t.Error("one core twice")
	}
}

func TestP10_2From(t *testing.T) {
	r := Regs{U: alu.Unit{A: 1, X: 2, Y: 3, S: 4, P: 0xdf}, PC: 0xffff}
	m := at(r, 0xea)
	r.U.P = 0xef
	m.regs(t, r)
	if !m.c.Ready() || m.c.Jammed() {
		t.Error("not ready")
	}
	m.want(t, "ffff 0000")
	r.PC = 0
	m.regs(t, r)
}

// TestP10_2Reset: a reset in each cycle of an instruction that changes registers all the time.
func TestP10_2Reset(t *testing.T) {
	for n := range 7 {
		r := Regs{U: alu.Unit{A: 9, S: 1, P: fixed | alu.Carry}, PC: 0x8000}
		m := at(r, 0x40)
		m.put(0x102, 0xc0, 0, 0x90)
		m.put(0xfffc, 0xcd, 0xab)
		for range n {
			m.cycle()
		}
		if n == 6 {
			r = Regs{U: alu.Unit{A: 9, S: 4, P: 0xe0}, PC: 0x9000}
		}
		m.c.Reset()
		m.regs(t, r)
		if !m.c.Ready() || m.c.Jammed() || m.c.Wants() != (Access{At: r.PC}) {
			t.Error(n, m.c.Ready(), m.c.Wants())
		}
		m.cycle()
		m.cycle()
		if m.c.Ready() {
			t.Error(n, "ready in a sequence")
		}
		m.c.Reset()
		s := r.U.S
		m.want(t, fmt.Sprintf("%04x %04x 01%02x 01%02x 01%02x fffc fffd", r.PC, r.PC, s, s-1, s-2))
		r.U.S, r.U.P, r.PC = s-3, r.U.P|alu.Mask, 0xabcd
		m.regs(t, r)
	}
}

func TestP10_2ResetLines(t *testing.T) {
	m := at(Regs{PC: 0x8000}, 0xea, 0xea)
	m.put(0xfffc, 0, 0x90)
	m.mem[0x9000] = 0xea
	m.nmi = true
	m.run()
	m.c.Reset() // the NMI sequence was next
	m.nmi = false
	m.want(t, "8001 8001 0100 01ff 01fe fffc fffd")
	m.want(t, "9000 9001")

	m = at(Regs{PC: 0x8000}, 0xea, 0xea)
	m.put(0xfffc, 0, 0x90)
	m.mem[0x9000] = 0xea
	m.nmi = true
	m.cycle()
	m.c.Reset() // an NMI was pending
	m.nmi = false
	m.run()
	m.want(t, "9000 9001")

	m = at(Regs{U: alu.Unit{S: 0x80}, PC: 0x8000}, 0xea, 0xea)
	m.put(0xfffc, 0, 0x90)
	m.nmi = true
	m.run()
	m.c.Reset() // the line stays, and counts as new
	m.want(t, "8001 8001 0180 017f 017e fffc fffd")
	m.want(t, "9000 9000 017d=90 017c=00 017b=24 fffa fffb")
}

func TestP10_2Copy(t *testing.T) {
	for n := range 8 {
		m := at(Regs{U: alu.Unit{X: 1, P: alu.Carry}, PC: 0x8000}, 0x7e, 0xff, 0x12)
		m.mem[0x1300] = 2
		m.nmi = true
		for range n {
			m.cycle()
		}
		o := &machine{c: m.c.Copy(), mem: m.mem, nmi: true}
		if o.c == m.c || o.c.Wants() != m.c.Wants() || o.c.Regs() != m.c.Regs() || o.c.Ready() != m.c.Ready() {
			t.Error(n, o.c.Wants(), o.c.Regs(), o.c.Ready())
		}
		o.c.Reset()
		o.c.Clock(0, false, true)
		o.c = m.c.Copy()
		a, b := m.run()+" then "+m.run(), o.run()+" then "+o.run()
		if a != b || m.c.Regs() != o.c.Regs() {
			t.Errorf("%d: %s and %s", n, a, b)
		}
	}
	m := at(Regs{PC: 0x8000}, 0x02)
	m.cycle()
	o := m.c.Copy()
	m.c.Reset()
	if m.c.Jammed() || !o.Jammed() || o.Wants().At != 0xffff {
		t.Error("a halted copy")
	}
}

func TestP10_2Nil(t *testing.T) {
	var c *Core
	c.Clock(0xff, true, true)
	c.Reset()
	if c.Wants() != (Access{}) || c.Regs() != (Regs{}) || c.Ready() || c.Jammed() || c.Copy() != nil {
		t.Error("a nil core has something")
	}
}
