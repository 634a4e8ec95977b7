package code

import "strings"

// shape is how the operand of a mode is written: hexadecimal digits, and what stands around them.
type shape struct {
	before string
	digits int
	after  string
}

var shapes = [...]shape{
	Imm: {"#$", 2, ""},
	Zp:  {"$", 2, ""},
	Zpx: {"$", 2, ",X"},
	Zpy: {"$", 2, ",Y"},
	Abs: {"$", 4, ""},
	Abx: {"$", 4, ",X"},
	Aby: {"$", 4, ",Y"},
	Izx: {"($", 2, ",X)"},
	Izy: {"($", 2, "),Y"},
	Rel: {"$", 4, ""},
	Ind: {"($", 4, ")"},
}

const hexDigits = "0123456789ABCDEF"

// text returns the operand n as it is written.
func (s shape) text(n uint16) string {
	return s.before + hex(n, s.digits) + s.after
}

// number returns the operand that is written so.
func (s shape) number(operand string) (uint16, bool) {
	digits, begins := strings.CutPrefix(operand, s.before)
	digits, ends := strings.CutSuffix(digits, s.after)
	if !begins || !ends || len(digits) != s.digits {
		return 0, false
	}
	return parseHex(digits)
}

// hex returns the lowest digits of n.
func hex(n uint16, digits int) string {
	p := make([]byte, digits)
	for i := range p {
		p[digits-1-i] = hexDigits[n&15]
		n >>= 4
	}
	return string(p)
}

func parseHex(digits string) (uint16, bool) {
	var n uint16
	for _, r := range digits {
		d := strings.IndexRune(hexDigits, r)
		if d < 0 {
			return 0, false
		}
		n = n<<4 | uint16(d)
	}
	return n, true
}
