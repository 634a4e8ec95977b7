package core

import (
	"strings"
	"testing"

	"kotatsu/alu"
)

// modes are instructions at 8000, with X 1, Y 2, A 0f and S 80: the cycles that the document gives each of them.
// The memory holds 34 12 12 from 0010 on, ff at 00ff, 12 13 from 0000 on, and zeros.
var modes = []struct {
	program []byte
	want    string
}{
	// Reads
	{[]byte{0xa9, 0x10}, "8000 8001"},
	{[]byte{0xa5, 0x10}, "8000 8001 0010"},
	{[]byte{0xb5, 0x10}, "8000 8001 0010 0011"},
	{[]byte{0xb5, 0xff}, "8000 8001 00ff 0000"},
	{[]byte{0xb6, 0x10}, "8000 8001 0010 0012"},
	{[]byte{0xb6, 0xfe}, "8000 8001 00fe 0000"},
	{[]byte{0xad, 0x34, 0x12}, "8000 8001 8002 1234"},
	{[]byte{0xbd, 0x34, 0x12}, "8000 8001 8002 1235"},
	{[]byte{0xbd, 0xfe, 0x12}, "8000 8001 8002 12ff"},
	{[]byte{0xbd, 0xff, 0x12}, "8000 8001 8002 1200 1300"},
	{[]byte{0xbd, 0xff, 0xff}, "8000 8001 8002 ff00 0000"},
	{[]byte{0xb9, 0x34, 0x12}, "8000 8001 8002 1236"},
	{[]byte{0xb9, 0xfe, 0x12}, "8000 8001 8002 1200 1300"},
	{[]byte{0xbe, 0xff, 0xff}, "8000 8001 8002 ff01 0001"},
	{[]byte{0xa1, 0x10}, "8000 8001 0010 0011 0012 1212"},
	{[]byte{0xa1, 0xfe}, "8000 8001 00fe 00ff 0000 12ff"},
	{[]byte{0xa1, 0xff}, "8000 8001 00ff 0000 0001 1312"},
	{[]byte{0xb1, 0x10}, "8000 8001 0010 0011 1236"},
	{[]byte{0xb1, 0xff}, "8000 8001 00ff 0000 1201 1301"},
	// NOP reads as well
	{[]byte{0x80, 0x10}, "8000 8001"},
	{[]byte{0x04, 0x10}, "8000 8001 0010"},
	{[]byte{0x14, 0xff}, "8000 8001 00ff 0000"},
	{[]byte{0x0c, 0x34, 0x12}, "8000 8001 8002 1234"},
	{[]byte{0x1c, 0x34, 0x12}, "8000 8001 8002 1235"},
	{[]byte{0xfc, 0xff, 0x12}, "8000 8001 8002 1200 1300"},
	// Stores
	{[]byte{0x85, 0x10}, "8000 8001 0010=0f"},
	{[]byte{0x95, 0xff}, "8000 8001 00ff 0000=0f"},
	{[]byte{0x96, 0x10}, "8000 8001 0010 0012=01"},
	{[]byte{0x94, 0x10}, "8000 8001 0010 0011=02"},
	{[]byte{0x97, 0x10}, "8000 8001 0010 0012=01"},
	{[]byte{0x8d, 0x34, 0x12}, "8000 8001 8002 1234=0f"},
	{[]byte{0x8e, 0x34, 0x12}, "8000 8001 8002 1234=01"},
	{[]byte{0x8c, 0x34, 0x12}, "8000 8001 8002 1234=02"},
	{[]byte{0x9d, 0x34, 0x12}, "8000 8001 8002 1235 1235=0f"},
	{[]byte{0x9d, 0xff, 0x12}, "8000 8001 8002 1200 1300=0f"},
	{[]byte{0x99, 0x34, 0x12}, "8000 8001 8002 1236 1236=0f"},
	{[]byte{0x99, 0xff, 0xff}, "8000 8001 8002 ff01 0001=0f"},
	{[]byte{0x81, 0x10}, "8000 8001 0010 0011 0012 1212=0f"},
	{[]byte{0x83, 0xfe}, "8000 8001 00fe 00ff 0000 12ff=01"},
	{[]byte{0x91, 0x10}, "8000 8001 0010 0011 1236 1236=0f"},
	{[]byte{0x91, 0xff}, "8000 8001 00ff 0000 1201 1301=0f"},
	// Changes
	{[]byte{0xe6, 0x10}, "8000 8001 0010 0010=34 0010=35"},
	{[]byte{0xf6, 0x10}, "8000 8001 0010 0011 0011=12 0011=13"},
	{[]byte{0x0e, 0x10, 0x00}, "8000 8001 8002 0010 0010=34 0010=68"},
	{[]byte{0xde, 0x00, 0x20}, "8000 8001 8002 2001 2001 2001=00 2001=ff"},
	{[]byte{0xde, 0xff, 0x12}, "8000 8001 8002 1200 1300 1300=00 1300=ff"},
	{[]byte{0xdb, 0xff, 0xff}, "8000 8001 8002 ff01 0001 0001=13 0001=12"},
	{[]byte{0xe3, 0x10}, "8000 8001 0010 0011 0012 1212 1212=00 1212=01"},
	{[]byte{0xf3, 0x10}, "8000 8001 0010 0011 1236 1236 1236=00 1236=01"},
	{[]byte{0xf3, 0xff}, "8000 8001 00ff 0000 1201 1301 1301=00 1301=01"},
	// Imp
	{[]byte{0xea}, "8000 8001"},
	{[]byte{0x1a}, "8000 8001"},
	{[]byte{0xe8}, "8000 8001"},
	{[]byte{0x0a}, "8000 8001"},
}

func TestP10_3Modes(t *testing.T) {
	for _, c := range modes {
		m := at(Regs{U: alu.Unit{A: 0x0f, X: 1, Y: 2, S: 0x80}, PC: 0x8000}, c.program...)
		m.put(0x10, 0x34, 0x12, 0x12)
		m.put(0xff, 0xff)
		m.put(0, 0x12, 0x13)
		m.want(t, c.want)
		if pc := m.c.Regs().PC; int(pc) != 0x8000+len(c.program) {
			t.Errorf("%x: PC is %04x", c.program, pc)
		}
	}
}

// TestP10_3Edge: the program itself may go over the end of the memory.
func TestP10_3Edge(t *testing.T) {
	m := at(Regs{U: alu.Unit{X: 0xff}, PC: 0xfffe}, 0xfe, 0x80, 0x12)
	m.mem[0x137f] = 0xff
	m.want(t, "fffe ffff 0000 127f 137f 137f=ff 137f=00")
	m.regs(t, Regs{U: alu.Unit{X: 0xff, P: fixed | alu.Zero}, PC: 1})
}

func TestP10_3Effects(t *testing.T) {
	for _, c := range []struct {
		program []byte
		u       alu.Unit
	}{
		{[]byte{0xa9, 0x80}, alu.Unit{A: 0x80, X: 1, Y: 2, S: 0x80, P: fixed | alu.Minus}},
		{[]byte{0xa7, 0x10}, alu.Unit{A: 0x34, X: 0x34, Y: 2, S: 0x80, P: fixed}},
		{[]byte{0x69, 0xf1}, alu.Unit{X: 1, Y: 2, S: 0x80, P: fixed | alu.Zero | alu.Carry}},
		{[]byte{0xbb, 0x0e, 0x00}, alu.Unit{X: 0, Y: 2, S: 0, P: fixed | alu.Zero}},
		{[]byte{0x0a}, alu.Unit{A: 0x1e, X: 1, Y: 2, S: 0x80, P: fixed}},
		{[]byte{0x9a}, alu.Unit{A: 0x0f, X: 1, Y: 2, S: 1, P: fixed}},
		{[]byte{0xf8}, alu.Unit{A: 0x0f, X: 1, Y: 2, S: 0x80, P: fixed | alu.Decimal}},
		{[]byte{0xea}, alu.Unit{A: 0x0f, X: 1, Y: 2, S: 0x80, P: fixed}},
		{[]byte{0x80, 0xff}, alu.Unit{A: 0x0f, X: 1, Y: 2, S: 0x80, P: fixed}},
		{[]byte{0x85, 0x10}, alu.Unit{A: 0x0f, X: 1, Y: 2, S: 0x80, P: fixed}},
		{[]byte{0x27, 0x11}, alu.Unit{A: 0x04, X: 1, Y: 2, S: 0x80, P: fixed}},
		{[]byte{0xc7, 0x10}, alu.Unit{A: 0x0f, X: 1, Y: 2, S: 0x80, P: fixed | alu.Minus}},
	} {
		m := at(Regs{U: alu.Unit{A: 0x0f, X: 1, Y: 2, S: 0x80}, PC: 0x8000}, c.program...)
		m.put(0x10, 0x34, 0x12, 0x12)
		m.run()
		m.regs(t, Regs{U: c.u, PC: uint16(0x8000 + len(c.program))})
	}
}

func TestP10_4Branches(t *testing.T) {
	for _, c := range []struct {
		pc     uint16
		offset byte
		want   string
		to     uint16
	}{
		{0x8000, 0x7d, "8000 8001 8002", 0x807f},
		{0x8000, 0x00, "8000 8001 8002", 0x8002},
		{0x8000, 0xfe, "8000 8001 8002", 0x8000},
		{0x8000, 0xfd, "8000 8001 8002 80ff", 0x7fff},
		{0x8080, 0x7d, "8080 8081 8082", 0x80ff},
		{0x8080, 0x7e, "8080 8081 8082 8000", 0x8100},
		{0x8080, 0x80, "8080 8081 8082", 0x8002},
		{0x80fe, 0x00, "80fe 80ff 8100", 0x8100}, // the page is that behind the branch
		{0x80fd, 0x01, "80fd 80fe 80ff 8000", 0x8100},
		{0x80fe, 0xff, "80fe 80ff 8100 81ff", 0x80ff},
		{0x0000, 0x80, "0000 0001 0002 0082", 0xff82},
		{0xfff0, 0x7f, "fff0 fff1 fff2 ff71", 0x0071},
		{0xffff, 0x05, "ffff 0000 0001", 0x0006},
		{0xfffe, 0xff, "fffe ffff 0000 00ff", 0xffff},
	} {
		m := at(Regs{PC: c.pc}, 0xd0, c.offset)
		m.want(t, c.want)
		m.regs(t, Regs{U: alu.Unit{P: fixed}, PC: c.to})
		m = at(Regs{PC: c.pc}, 0xf0, c.offset)
		m.want(t, strings.Join(strings.Fields(c.want)[:2], " "))
		m.regs(t, Regs{U: alu.Unit{P: fixed}, PC: c.pc + 2})
	}
}

// TestP10_4Taken: each branch goes by its own flag.
func TestP10_4Taken(t *testing.T) {
	for i, flag := range []byte{alu.Minus, alu.Over, alu.Carry, alu.Zero} {
		for set := range 2 {
			for p := range 256 {
				m := at(Regs{U: alu.Unit{P: byte(p)}, PC: 0x8000}, byte(i*0x40+set*0x20+0x10), 0x10)
				n := len(strings.Fields(m.run()))
				takes := (byte(p)&flag != 0) == (set == 1)
				if n != 3 && takes || n != 2 && !takes {
					t.Errorf("%x with %02x: %d cycles", m.mem[0x8000], p, n)
				}
			}
		}
	}
}

func TestP10_4Jumps(t *testing.T) {
	m := at(Regs{PC: 0x8000}, 0x4c, 0x34, 0x12)
	m.want(t, "8000 8001 8002")
	m.regs(t, Regs{U: alu.Unit{P: fixed}, PC: 0x1234})

	m = at(Regs{PC: 0x8000}, 0x6c, 0x34, 0x12)
	m.put(0x1234, 0x78, 0x56)
	m.want(t, "8000 8001 8002 1234 1235")
	m.regs(t, Regs{U: alu.Unit{P: fixed}, PC: 0x5678})

	m = at(Regs{PC: 0x8000}, 0x6c, 0xff, 0x12) // the page is not left
	m.mem[0x12ff], m.mem[0x1200], m.mem[0x1300] = 0x78, 0x56, 0x99
	m.want(t, "8000 8001 8002 12ff 1200")
	m.regs(t, Regs{U: alu.Unit{P: fixed}, PC: 0x5678})

	m = at(Regs{PC: 0x8000}, 0x6c, 0xff, 0xff)
	m.want(t, "8000 8001 8002 ffff ff00")

	m = at(Regs{PC: 0xfffd}, 0x4c, 0x34, 0x12)
	m.want(t, "fffd fffe ffff")
	m.regs(t, Regs{U: alu.Unit{P: fixed}, PC: 0x1234})
}

func TestP10_4Calls(t *testing.T) {
	m := at(Regs{U: alu.Unit{S: 0x80}, PC: 0x80fe}, 0x20, 0x34, 0x12)
	m.mem[0x1234] = 0x60
	m.want(t, "80fe 80ff 0180 0180=81 017f=00 8100")
	m.regs(t, Regs{U: alu.Unit{S: 0x7e, P: fixed}, PC: 0x1234})
	m.want(t, "1234 1235 017e 017f 0180 8100")
	m.regs(t, Regs{U: alu.Unit{S: 0x80, P: fixed}, PC: 0x8101})

	m = at(Regs{U: alu.Unit{S: 0}, PC: 0xfffe}, 0x20, 0x34, 0x12) // over the end of the stack, and of the memory
	m.mem[0x1234] = 0x60
	m.want(t, "fffe ffff 0100 0100=00 01ff=00 0000")
	m.regs(t, Regs{U: alu.Unit{S: 0xfe, P: fixed}, PC: 0x1234})
	m.want(t, "1234 1235 01fe 01ff 0100 0000")
	m.regs(t, Regs{U: alu.Unit{S: 0, P: fixed}, PC: 1})

	m = at(Regs{U: alu.Unit{S: 0xfd}, PC: 0x8000}, 0x60)
	m.put(0x1fe, 0xff, 0xff)
	m.want(t, "8000 8001 01fd 01fe 01ff ffff")
	m.regs(t, Regs{U: alu.Unit{S: 0xff, P: fixed}, PC: 0})

	// a call within the stack: the upper half is read behind the pushes
	m = at(Regs{U: alu.Unit{S: 0x02}, PC: 0x0100}, 0x20, 0x34, 0x12)
	m.want(t, "0100 0101 0102 0102=01 0101=02 0102")
	m.regs(t, Regs{U: alu.Unit{S: 0, P: fixed}, PC: 0x0134})
}

func TestP10_4Returns(t *testing.T) {
	m := at(Regs{U: alu.Unit{A: 5, S: 0xfe, P: 0xff}, PC: 0x8000}, 0x40)
	m.put(0x1ff, 0x10)
	m.put(0x100, 0x34, 0x12)
	m.want(t, "8000 8001 01fe 01ff 0100 0101")
	m.regs(t, Regs{U: alu.Unit{A: 5, S: 1, P: fixed}, PC: 0x1234})
}

func TestP10_4Stack(t *testing.T) {
	m := at(Regs{U: alu.Unit{A: 0x91, S: 0, P: alu.Zero}, PC: 0x8000}, 0x48, 0xa9, 0x00, 0x68, 0x48, 0x08, 0x68, 0x28)
	m.want(t, "8000 8001 0100=91")
	m.regs(t, Regs{U: alu.Unit{A: 0x91, S: 0xff, P: fixed | alu.Zero}, PC: 0x8001})
	m.want(t, "8001 8002")
	m.want(t, "8003 8004 01ff 0100")
	m.regs(t, Regs{U: alu.Unit{A: 0x91, S: 0, P: fixed | alu.Minus}, PC: 0x8004})
	m.want(t, "8004 8005 0100=91")
	m.want(t, "8005 8006 01ff=b0")
	m.want(t, "8006 8007 01fe 01ff")
	m.regs(t, Regs{U: alu.Unit{A: 0xb0, S: 0xff, P: fixed | alu.Minus}, PC: 0x8007})
	m.want(t, "8007 8008 01ff 0100")
	m.regs(t, Regs{U: alu.Unit{A: 0xb0, S: 0, P: 0xa1}, PC: 0x8008})

	m = at(Regs{U: alu.Unit{A: 0x91, S: 0x7f, P: alu.Minus | alu.Carry}, PC: 0x8000}, 0x68)
	m.want(t, "8000 8001 017f 0180")
	m.regs(t, Regs{U: alu.Unit{S: 0x80, P: fixed | alu.Zero | alu.Carry}, PC: 0x8001})
}

func TestP10_4Break(t *testing.T) {
	m := at(Regs{U: alu.Unit{A: 5, S: 1, P: alu.Carry}, PC: 0xfffd}, 0x00)
	m.put(0xfffe, 0x34, 0x12)
	m.want(t, "fffd fffe 0101=ff 0100=ff 01ff=31 fffe ffff")
	m.regs(t, Regs{U: alu.Unit{A: 5, S: 0xfe, P: fixed | alu.Carry | alu.Mask}, PC: 0x1234})

	m = at(Regs{U: alu.Unit{S: 0x80, P: alu.Mask}, PC: 0x8000}, 0x00) // Mask does not hold it up
	m.put(0xfffe, 0x34, 0x12)
	m.mem[0x1234] = 0x40
	m.want(t, "8000 8001 0180=80 017f=02 017e=34 fffe ffff")
	m.want(t, "1234 1235 017d 017e 017f 0180")
	m.regs(t, Regs{U: alu.Unit{S: 0x80, P: fixed | alu.Mask}, PC: 0x8002})
}

func TestP10_4Jam(t *testing.T) {
	for _, opcode := range []byte{0x02, 0x12, 0x22, 0x32, 0x42, 0x52, 0x62, 0x72, 0x92, 0xb2, 0xd2, 0xf2, 0x8b, 0x93, 0x9b, 0x9c, 0x9e, 0x9f, 0xab} {
		r := Regs{U: alu.Unit{A: 5, S: 0x80, P: fixed}, PC: 0x8000}
		m := at(r, opcode)
		m.put(0xfffc, 0x34, 0x12)
		if m.c.Jammed() {
			t.Errorf("%02x: halted at once", opcode)
		}
		m.irq = true
		if s := m.cycle(); s != "8000" {
			t.Errorf("%02x: %s", opcode, s)
		}
		for i := range 100 {
			if !m.c.Jammed() || m.c.Ready() || m.c.Regs() != r {
				t.Fatalf("%02x: %t %t %v", opcode, m.c.Jammed(), m.c.Ready(), m.c.Regs())
			}
			m.nmi = i%2 == 0
			if s := m.cycle(); s != "ffff" {
				t.Fatalf("%02x: cycle %d: %s", opcode, i, s)
			}
		}
		m.nmi = false
		m.c.Reset()
		if m.c.Jammed() || !m.c.Ready() {
			t.Errorf("%02x: still halted", opcode)
		}
		m.want(t, "8000 8000 0180 017f 017e fffc fffd")
		m.mem[0x1234] = 0xea
		m.want(t, "1234 1235")
		m.regs(t, Regs{U: alu.Unit{A: 5, S: 0x7d, P: fixed | alu.Mask}, PC: 0x1235})
	}
}
