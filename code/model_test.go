package code

import (
	"fmt"
	"regexp"
	"strconv"
	"strings"

	"kotatsu/api"
)

// table is the document's: the codes of sixteen bytes a line, from 00 on.
const table = `
BRK# ORA( JAM SLO( NOPz ORAz ASLz SLOz PHP ORA# ASL ANC# NOPa ORAa ASLa SLOa
BPLr ORA) JAM SLO) NOPx ORAx ASLx SLOx CLC ORAY NOP SLOY NOPX ORAX ASLX SLOX
JSRa AND( JAM RLA( BITz ANDz ROLz RLAz PLP AND# ROL ANC# BITa ANDa ROLa RLAa
BMIr AND) JAM RLA) NOPx ANDx ROLx RLAx SEC ANDY NOP RLAY NOPX ANDX ROLX RLAX
RTI EOR( JAM SRE( NOPz EORz LSRz SREz PHA EOR# LSR ALR# JMPa EORa LSRa SREa
BVCr EOR) JAM SRE) NOPx EORx LSRx SREx CLI EORY NOP SREY NOPX EORX LSRX SREX
RTS ADC( JAM RRA( NOPz ADCz RORz RRAz PLA ADC# ROR ARR# JMPi ADCa RORa RRAa
BVSr ADC) JAM RRA) NOPx ADCx RORx RRAx SEI ADCY NOP RRAY NOPX ADCX RORX RRAX
NOP# STA( NOP# SAX( STYz STAz STXz SAXz DEY NOP# TXA JAM STYa STAa STXa SAXa
BCCr STA) JAM JAM STYx STAx STXy SAXy TYA STAY TXS JAM JAM STAX JAM JAM
LDY# LDA( LDX# LAX( LDYz LDAz LDXz LAXz TAY LDA# TAX JAM LDYa LDAa LDXa LAXa
BCSr LDA) JAM LAX) LDYx LDAx LDXy LAXy CLV LDAY TSX LASY LDYX LDAX LDXY LAXY
CPY# CMP( NOP# DCP( CPYz CMPz DECz DCPz INY CMP# DEX AXS# CPYa CMPa DECa DCPa
BNEr CMP) JAM DCP) NOPx CMPx DECx DCPx CLD CMPY NOP DCPY NOPX CMPX DECX DCPX
CPX# SBC( NOP# ISC( CPXz SBCz INCz ISCz INX SBC# NOP SBC# CPXa SBCa INCa ISCa
BEQr SBC) JAM ISC) NOPx SBCx INCx ISCx SED SBCY NOP ISCY NOPX SBCX INCX ISCX`

// names are the operations by their numbers, as layer 8's chapter orders them.
const names = `NOP ORA AND EOR ADC SBC CMP CPX CPY LDA LDX LDY BIT LAX ANC ALR ARR AXS LAS
ASL LSR ROL ROR INC DEC SLO RLA SRE RRA DCP ISC STA STX STY SAX
TAX TAY TXA TYA TSX TXS INX INY DEX DEY CLC SEC CLI SEI CLV CLD SED
BPL BMI BVC BVS BCC BCS BNE BEQ JMP JSR RTS RTI BRK PHA PHP PLA PLP JAM`

// repeated are the opcodes whose code has another Byte.
const repeated = "1a 3a 5a 7a da fa 82 89 c2 e2 44 64 34 54 74 d4 f4 3c 5c 7c dc fc " +
	"2b eb 12 22 32 42 52 62 72 92 b2 d2 f2 8b 93 9b 9c 9e 9f ab"

// marks are the characters of the modes by their numbers; Imp has none.
const marks = " #zxyaXY()ri"

// kindOf is one code of the table: the operation's name and the mode's mark.
type kindOf struct {
	name string
	mark byte
}

func kinds() []kindOf {
	var l []kindOf
	for _, word := range strings.Fields(table) {
		l = append(l, kindOf{word[:3], (word + " ")[3]})
	}
	return l
}

// code is the same in the package's terms.
func (k kindOf) code() Code {
	op := 0
	for i, name := range strings.Fields(names) {
		if name == k.name {
			op = i
		}
	}
	return Code{Op: byte(op), Mode: byte(strings.IndexByte(marks, k.mark))}
}

// single reports whether an opcode is told as a byte, even if its instruction is complete.
func single(b int) bool {
	const digits = "0123456789abcdef"
	return strings.Contains(repeated, digits[b/16:b/16+1]+digits[b%16:b%16+1])
}

// line is what Text tells of a complete instruction with that operand (its second and third byte).
func (k kindOf) line(low, high, at int) string {
	both := 256*high + low
	switch k.mark {
	case '#':
		return fmt.Sprintf("%s #$%02X", k.name, low)
	case 'z':
		return fmt.Sprintf("%s $%02X", k.name, low)
	case 'x':
		return fmt.Sprintf("%s $%02X,X", k.name, low)
	case 'y':
		return fmt.Sprintf("%s $%02X,Y", k.name, low)
	case 'a':
		return fmt.Sprintf("%s $%04X", k.name, both)
	case 'X':
		return fmt.Sprintf("%s $%04X,X", k.name, both)
	case 'Y':
		return fmt.Sprintf("%s $%04X,Y", k.name, both)
	case '(':
		return fmt.Sprintf("%s ($%02X,X)", k.name, low)
	case ')':
		return fmt.Sprintf("%s ($%02X),Y", k.name, low)
	case 'r':
		return fmt.Sprintf("%s $%04X", k.name, target(at, low))
	case 'i':
		return fmt.Sprintf("%s ($%04X)", k.name, both)
	}
	return k.name
}

// target is where a branch at an address leads.
func target(at, offset int) int {
	if offset > 127 {
		offset -= 256
	}
	return (at + 2 + offset + 0x10000) % 0x10000
}

// size is the bytes of an instruction.
func (k kindOf) size() int {
	switch k.mark {
	case ' ':
		return 1
	case 'a', 'X', 'Y', 'i':
		return 3
	}
	return 2
}

// form splits a line into its name, what stands ahead of the digits, the digits, and what stands behind them.
var form = regexp.MustCompile(`(?s)^([A-Z]+)(?: (.*?)\$([0-9A-F]*)(.*))?$`)

// assembled is what Parse makes of a line, by the forms of the document.
func assembled(line string, at int) ([]byte, api.Errno) {
	part := form.FindStringSubmatch(line)
	if part == nil {
		return nil, api.ErrText
	}
	shape := part[2] + strings.Repeat("n", len(part[3])) + part[4]
	number, _ := strconv.ParseUint(part[3], 16, 16)
	if part[1] == "BYTE" && shape == "nn" && strings.Contains(line, " ") {
		return []byte{byte(number)}, api.OK
	}
	mark := map[string]string{
		"": " ", "#nn": "#", "nn": "z", "nn,X": "x", "nn,Y": "y", "nnnn": "ar", "nnnn,X": "X", "nnnn,Y": "Y",
		"(nn,X)": "(", "(nn),Y": ")", "(nnnn)": "i",
	}[shape]
	if shape == "" && line != part[1] {
		return nil, api.ErrText
	}
	for b, k := range kinds() {
		if k.name != part[1] || single(b) || !strings.Contains(mark, string(k.mark)) {
			continue
		}
		if k.mark == 'r' {
			return branch(byte(b), int(number), at)
		}
		return []byte{byte(b), byte(number), byte(number >> 8)}[:k.size()], api.OK
	}
	return nil, api.ErrText
}

// branch tries all offsets.
func branch(b byte, to, at int) ([]byte, api.Errno) {
	for offset := range 256 {
		if target(at, offset) == to {
			return []byte{b, byte(offset)}, api.OK
		}
	}
	return nil, api.ErrOver
}
