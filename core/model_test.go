package core

import (
	"math/rand"
	"slices"
	"testing"

	"kotatsu/alu"
	"kotatsu/code"
)

// model is the processor by the document's words: an instruction or sequence at a time, cycle after cycle in a row.
type model struct {
	mem     [0x10000]byte
	r       Regs
	log     []Access
	lines   func() (irq, nmi bool) // called once a cycle
	irq     bool
	nmi     bool
	pending bool
	comes   byte // what comes next: i (an instruction), n, q (NMI, IRQ) or r (reset)
	jammed  bool
}

func (m *model) tick() {
	irq, nmi := m.lines()
	if nmi && !m.nmi {
		m.pending = true
	}
	m.irq, m.nmi = irq, nmi
}

func (m *model) read(at uint16) byte {
	m.log = append(m.log, Access{At: at})
	m.tick()
	return m.mem[at]
}

func (m *model) write(at uint16, b byte) {
	m.log = append(m.log, Access{At: at, Put: true, B: b})
	m.mem[at] = b
	m.tick()
}

// p, pp (p+), s and w are the document's.
func (m *model) p() byte { return m.read(m.r.PC) }

func (m *model) pp() byte {
	b := m.p()
	m.r.PC++
	return b
}

func (m *model) s() byte { return m.read(0x100 + uint16(m.r.U.S)) }

func (m *model) w(b byte) {
	m.write(0x100+uint16(m.r.U.S), b)
	m.r.U.S--
}

func (m *model) wPC() {
	m.w(byte(m.r.PC / 256))
	m.w(byte(m.r.PC % 256))
}

func join(low, high byte) uint16 { return uint16(low) + 256*uint16(high) }

// step executes what comes next, and selects what comes then.
func (m *model) step() {
	m.log = nil
	switch m.comes {
	case 'i':
		m.instruction()
	case 'n':
		m.interrupt(0xfffa)
	case 'q':
		m.interrupt(0xfffe)
	case 'r':
		m.reset()
	}
	switch {
	case m.pending:
		m.comes, m.pending = 'n', false
	case m.irq && m.r.U.P&4 == 0:
		m.comes = 'q'
	default:
		m.comes = 'i'
	}
}

func (m *model) interrupt(vector uint16) {
	m.p()
	m.p()
	m.wPC()
	m.w(m.r.U.P)
	m.enter(vector)
}

func (m *model) reset() {
	m.p()
	m.p()
	for range 3 {
		m.s()
		m.r.U.S--
	}
	m.enter(0xfffc)
}

func (m *model) enter(vector uint16) {
	low := m.read(vector)
	m.r.PC = join(low, m.read(vector+1))
	m.r.U.P |= 4
}

func (m *model) instruction() {
	k := code.Of(m.pp())
	op := k.Op
	switch kind := alu.Kind(op); {
	case kind == alu.Flows:
		m.flow(alu.Name(op), k.Mode)
	case kind == alu.Branches:
		m.branch(op)
	case k.Mode == code.Imp:
		m.p()
		m.r.U = m.r.U.Self(op)
	case k.Mode == code.Imm:
		m.r.U = m.r.U.Read(op, m.pp())
	case kind == alu.Reads:
		m.r.U = m.r.U.Read(op, m.read(m.address(k.Mode, true)))
	case kind == alu.Stores:
		m.write(m.address(k.Mode, false), m.r.U.Store(op))
	default:
		at := m.address(k.Mode, false)
		b := m.read(at)
		m.write(at, b)
		m.r.U, b = m.r.U.Change(op, b)
		m.write(at, b)
	}
}

func (m *model) address(mode byte, reads bool) uint16 {
	u := m.r.U
	switch mode {
	case code.Zp:
		return uint16(m.pp())
	case code.Zpx, code.Zpy:
		b := m.pp()
		m.read(uint16(b))
		if mode == code.Zpx {
			return uint16(b+u.X) % 0x100
		}
		return uint16(b+u.Y) % 0x100
	case code.Abs:
		low := m.pp()
		return join(low, m.pp())
	case code.Abx:
		low := m.pp()
		return m.indexed(low, m.pp(), u.X, reads)
	case code.Aby:
		low := m.pp()
		return m.indexed(low, m.pp(), u.Y, reads)
	case code.Izx:
		b := m.pp()
		m.read(uint16(b))
		low := m.read(uint16(b + u.X))
		return join(low, m.read(uint16(b+u.X+1)))
	}
	b := m.pp()
	low := m.read(uint16(b))
	return m.indexed(low, m.read(uint16(b+1)), u.Y, reads)
}

func (m *model) indexed(low, high, index byte, reads bool) uint16 {
	crosses := int(low)+int(index) > 255
	if crosses || !reads {
		m.read(join(low+index, high))
	}
	if crosses {
		high++
	}
	return join(low+index, high)
}

func (m *model) branch(op byte) {
	offset := int(m.pp())
	if !m.r.U.Takes(op) {
		return
	}
	m.p()
	if offset > 127 {
		offset -= 256
	}
	low, high := int(m.r.PC%256), byte(m.r.PC/256)
	sum := low + offset
	if sum < 0 || sum > 255 {
		m.read(join(byte(sum), high))
	}
	m.r.PC = uint16((int(high)*256 + sum + 0x10000) % 0x10000)
}

func (m *model) flow(name string, mode byte) {
	switch name {
	case "JMP":
		low := m.pp()
		high := m.pp()
		if mode == code.Ind {
			l := m.read(join(low, high))
			low, high = l, m.read(join(low+1, high))
		}
		m.r.PC = join(low, high)
	case "JSR":
		low := m.pp()
		m.s()
		m.wPC()
		m.r.PC = join(low, m.p())
	case "BRK":
		m.pp()
		m.wPC()
		m.w(m.r.U.P | 0x10)
		m.enter(0xfffe)
	case "JAM":
		m.jammed = true
	default:
		m.p()
		m.stack(name)
	}
}

func (m *model) stack(name string) {
	switch name {
	case "PHA":
		m.w(m.r.U.A)
		return
	case "PHP":
		m.w(m.r.U.P | 0x10)
		return
	}
	m.s()
	m.r.U.S++
	switch name {
	case "PLA":
		m.r.U = m.r.U.Read(alu.Lda, m.s())
		return
	case "PLP":
		m.r.U.P = m.s()&0xef | 0x20
		return
	case "RTI":
		m.r.U.P = m.s()&0xef | 0x20
		m.r.U.S++
	}
	low := m.s()
	m.r.U.S++
	m.r.PC = join(low, m.s())
	if name == "RTS" {
		m.pp()
	}
}

// odd returns bytes of which the edges are as frequent as all others.
func odd(r *rand.Rand) byte {
	if r.Intn(2) == 0 {
		return []byte{0, 1, 2, 0x7e, 0x7f, 0x80, 0x81, 0xfd, 0xfe, 0xff}[r.Intn(10)]
	}
	return byte(r.Intn(256))
}

func oddRegs(r *rand.Rand) Regs {
	u := alu.Unit{A: odd(r), X: odd(r), Y: odd(r), S: odd(r), P: byte(r.Intn(256))&0xef | 0x20}
	return Regs{U: u, PC: join(odd(r), odd(r))}
}

// both is the core and the model, with the same memory and the same lines.
type both struct {
	t    *testing.T
	c    *Core
	m    *model
	mem  [0x10000]byte // the core's
	irq  []bool        // the lines of the cycles that the model has executed, and the core has not
	nmi  []bool
	junk *rand.Rand
}

func newBoth(t *testing.T, c *Core, comes byte, r *rand.Rand) *both {
	b := &both{t: t, c: c, m: &model{r: c.Regs(), comes: comes}, junk: r}
	var irq, nmi bool
	b.m.lines = func() (bool, bool) {
		if r.Intn(6) == 0 {
			irq = !irq
		}
		if r.Intn(30) == 0 || nmi && r.Intn(3) == 0 {
			nmi = !nmi
		}
		b.irq, b.nmi = append(b.irq, irq), append(b.nmi, nmi)
		return irq, nmi
	}
	for i := range b.mem {
		b.mem[i] = odd(r)
	}
	b.m.mem = b.mem
	return b
}

// step lets both execute what comes next, and holds them against each other in each cycle.
func (b *both) step() {
	b.t.Helper()
	before := b.c.Regs()
	b.m.step()
	for i, want := range b.m.log {
		if got := b.c.Wants(); got != want || got != b.c.Wants() {
			b.t.Fatalf("cycle %d of %v at %v: %v", i, b.m.log, before, got)
		}
		if b.c.Ready() != (i == 0) || b.c.Regs() != before || b.c.Jammed() {
			b.t.Fatalf("in cycle %d of %v at %v: %t %v", i, b.m.log, before, b.c.Ready(), b.c.Regs())
		}
		v := b.mem[want.At]
		if want.Put {
			b.mem[want.At] = want.B
			v = byte(b.junk.Intn(256))
		}
		b.c.Clock(v, b.irq[i], b.nmi[i])
	}
	b.irq, b.nmi = nil, nil
	if b.m.jammed {
		b.jam(before)
	} else if !b.c.Ready() || b.c.Jammed() || b.c.Regs() != b.m.r {
		b.t.Fatalf("after %v at %v: %t %v, want %v", b.m.log, before, b.c.Ready(), b.c.Regs(), b.m.r)
	}
}

// jam looks at a halted core, and resets both.
func (b *both) jam(before Regs) {
	b.t.Helper()
	for range 5 {
		if !b.c.Jammed() || b.c.Ready() || b.c.Regs() != before || b.c.Wants() != (Access{At: 0xffff}) {
			b.t.Fatalf("halted at %v: %t %t %v %v", before, b.c.Jammed(), b.c.Ready(), b.c.Regs(), b.c.Wants())
		}
		b.c.Clock(byte(b.junk.Intn(256)), true, b.junk.Intn(2) == 0)
	}
	b.c.Reset()
	b.m.jammed, b.m.r, b.m.comes = false, before, 'r'
	b.m.nmi, b.m.pending = false, false
}

// TestP10_3Model: all opcodes, with registers and operands at all kinds of edges (P10.3, P10.4).
func TestP10_3Model(t *testing.T) {
	r := rand.New(rand.NewSource(103))
	for range 8 {
		b := newBoth(t, From(oddRegs(r)), 'i', r)
		for opcode := range 256 {
			for range 40 {
				from := oddRegs(r)
				b.c = From(from)
				b.m.r, b.m.comes, b.m.nmi, b.m.pending = from, 'i', false, false
				b.mem[from.PC], b.m.mem[from.PC] = byte(opcode), byte(opcode)
				b.step()
				b.step()
			}
		}
	}
}

// TestP10_2Model: long programs, with lines that change all the time (P10.1, P10.2, P10.5).
func TestP10_2Model(t *testing.T) {
	r := rand.New(rand.NewSource(102))
	for range 40 {
		b := newBoth(t, New(), 'r', r)
		for range 2000 {
			b.step()
			if r.Intn(50) == 0 {
				b.c = b.c.Copy()
			}
			if r.Intn(200) == 0 {
				b.c.Reset()
				b.m.r, b.m.comes, b.m.nmi, b.m.pending = b.c.Regs(), 'r', false, false
			}
		}
		if b.mem != b.m.mem {
			t.Fatal("the memories differ")
		}
	}
}

// TestP10_3Steps: the core takes the cycles that layer 9 tells.
func TestP10_3Steps(t *testing.T) {
	r := rand.New(rand.NewSource(92))
	var mem [0x10000]byte
	for i := range mem {
		mem[i] = odd(r)
	}
	for opcode := range 256 {
		k := code.Of(byte(opcode))
		if k.Op == alu.Jam {
			continue
		}
		var want, got []int
		for i := range 4 {
			want = append(want, k.Steps(i%2 == 1, i/2 == 1))
		}
		for range 2000 {
			from := oddRegs(r)
			mem[from.PC] = byte(opcode)
			got = append(got, cycles(From(from), &mem))
		}
		slices.Sort(want)
		slices.Sort(got)
		if got, want = slices.Compact(got), slices.Compact(want); !slices.Equal(got, want) {
			t.Errorf("%02x: %d cycles, want %d", opcode, got, want)
		}
	}
}

// cycles returns how many cycles an instruction takes; what it writes is dropped.
func cycles(c *Core, mem *[0x10000]byte) int {
	n := 0
	for n == 0 || !c.Ready() {
		c.Clock(mem[c.Wants().At], false, false)
		n++
	}
	return n
}
