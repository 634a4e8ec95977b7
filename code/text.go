package code

import (
	"strings"

	"kotatsu/alu"
	"kotatsu/api"
)

// byteName is the name of a line that stands for a single byte, whatever it means.
const byteName = "BYTE"

// branchSize is the length of a branch: its offset counts from the address after it.
const branchSize = 2

// Text returns the line of the instruction that p begins with, and the bytes that it uses.
func Text(p []byte, at uint16) (string, int) {
	if len(p) == 0 {
		return "", 0
	}
	c := Of(p[0])
	if b, _ := c.Byte(); b != p[0] || len(p) < c.Size() {
		return byteName + " " + shapes[Zp].text(uint16(p[0])), 1
	}
	line := alu.Name(c.Op)
	if c.Mode != Imp {
		line += " " + shapes[c.Mode].text(c.operand(p, at))
	}
	return line, c.Size()
}

// operand returns the number that the line of an instruction with an operand tells.
func (c Code) operand(p []byte, at uint16) uint16 {
	switch {
	case c.Mode == Rel:
		return at + branchSize + uint16(int8(p[1]))
	case c.Size() == 3:
		return uint16(p[1]) | uint16(p[2])<<8
	}
	return uint16(p[1])
}

// List returns the lines of all instructions in p.
func List(p []byte, at uint16) []string {
	var lines []string
	for len(p) > 0 {
		line, n := Text(p, at)
		lines = append(lines, line)
		p = p[n:]
		at += uint16(n)
	}
	return lines
}

// Parse returns the bytes of a line.
func Parse(line string, at uint16) ([]byte, api.Errno) {
	name, operand, more := strings.Cut(line, " ")
	if name == byteName {
		return parseByte(operand)
	}
	op, ok := alu.Find(name)
	if !ok {
		return nil, api.ErrText
	}
	if !more {
		return Code{op, Imp}.bytes(0, at)
	}
	for mode := byte(Imm); mode <= Ind; mode++ {
		n, fits := shapes[mode].number(operand)
		if !fits {
			continue
		}
		// Two modes are written alike, but no operation has both.
		if p, e := (Code{op, mode}).bytes(n, at); e != api.ErrText {
			return p, e
		}
	}
	return nil, api.ErrText
}

func parseByte(operand string) ([]byte, api.Errno) {
	n, ok := shapes[Zp].number(operand)
	if !ok {
		return nil, api.ErrText
	}
	return []byte{byte(n)}, api.OK
}

// bytes returns the instruction of a code with the operand n.
func (c Code) bytes(n, at uint16) ([]byte, api.Errno) {
	b, ok := c.Byte()
	if !ok {
		return nil, api.ErrText
	}
	if c.Mode == Rel {
		n -= at + branchSize
		if n != uint16(int8(n)) {
			return nil, api.ErrOver
		}
	}
	p := []byte{b, byte(n), byte(n >> 8)}
	return p[:c.Size()], api.OK
}
