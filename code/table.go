package code

import "kotatsu/alu"

// codes returns the codes of all opcodes, eight a line.
func codes() [256]Code {
	return [256]Code{
		{alu.Brk, Imm}, {alu.Ora, Izx}, {alu.Jam, Imp}, {alu.Slo, Izx}, {alu.Nop, Zp}, {alu.Ora, Zp}, {alu.Asl, Zp}, {alu.Slo, Zp}, // 00
		{alu.Php, Imp}, {alu.Ora, Imm}, {alu.Asl, Imp}, {alu.Anc, Imm}, {alu.Nop, Abs}, {alu.Ora, Abs}, {alu.Asl, Abs}, {alu.Slo, Abs}, // 08
		{alu.Bpl, Rel}, {alu.Ora, Izy}, {alu.Jam, Imp}, {alu.Slo, Izy}, {alu.Nop, Zpx}, {alu.Ora, Zpx}, {alu.Asl, Zpx}, {alu.Slo, Zpx}, // 10
		{alu.Clc, Imp}, {alu.Ora, Aby}, {alu.Nop, Imp}, {alu.Slo, Aby}, {alu.Nop, Abx}, {alu.Ora, Abx}, {alu.Asl, Abx}, {alu.Slo, Abx}, // 18
		{alu.Jsr, Abs}, {alu.And, Izx}, {alu.Jam, Imp}, {alu.Rla, Izx}, {alu.Bit, Zp}, {alu.And, Zp}, {alu.Rol, Zp}, {alu.Rla, Zp}, // 20
		{alu.Plp, Imp}, {alu.And, Imm}, {alu.Rol, Imp}, {alu.Anc, Imm}, {alu.Bit, Abs}, {alu.And, Abs}, {alu.Rol, Abs}, {alu.Rla, Abs}, // 28
		{alu.Bmi, Rel}, {alu.And, Izy}, {alu.Jam, Imp}, {alu.Rla, Izy}, {alu.Nop, Zpx}, {alu.And, Zpx}, {alu.Rol, Zpx}, {alu.Rla, Zpx}, // 30
		{alu.Sec, Imp}, {alu.And, Aby}, {alu.Nop, Imp}, {alu.Rla, Aby}, {alu.Nop, Abx}, {alu.And, Abx}, {alu.Rol, Abx}, {alu.Rla, Abx}, // 38
		{alu.Rti, Imp}, {alu.Eor, Izx}, {alu.Jam, Imp}, {alu.Sre, Izx}, {alu.Nop, Zp}, {alu.Eor, Zp}, {alu.Lsr, Zp}, {alu.Sre, Zp}, // 40
		{alu.Pha, Imp}, {alu.Eor, Imm}, {alu.Lsr, Imp}, {alu.Alr, Imm}, {alu.Jmp, Abs}, {alu.Eor, Abs}, {alu.Lsr, Abs}, {alu.Sre, Abs}, // 48
		{alu.Bvc, Rel}, {alu.Eor, Izy}, {alu.Jam, Imp}, {alu.Sre, Izy}, {alu.Nop, Zpx}, {alu.Eor, Zpx}, {alu.Lsr, Zpx}, {alu.Sre, Zpx}, // 50
		{alu.Cli, Imp}, {alu.Eor, Aby}, {alu.Nop, Imp}, {alu.Sre, Aby}, {alu.Nop, Abx}, {alu.Eor, Abx}, {alu.Lsr, Abx}, {alu.Sre, Abx}, // 58
		{alu.Rts, Imp}, {alu.Adc, Izx}, {alu.Jam, Imp}, {alu.Rra, Izx}, {alu.Nop, Zp}, {alu.Adc, Zp}, {alu.Ror, Zp}, {alu.Rra, Zp}, // 60
		{alu.Pla, Imp}, {alu.Adc, Imm}, {alu.Ror, Imp}, {alu.Arr, Imm}, {alu.Jmp, Ind}, {alu.Adc, Abs}, {alu.Ror, Abs}, {alu.Rra, Abs}, // 68
		{alu.Bvs, Rel}, {alu.Adc, Izy}, {alu.Jam, Imp}, {alu.Rra, Izy}, {alu.Nop, Zpx}, {alu.Adc, Zpx}, {alu.Ror, Zpx}, {alu.Rra, Zpx}, // 70
		{alu.Sei, Imp}, {alu.Adc, Aby}, {alu.Nop, Imp}, {alu.Rra, Aby}, {alu.Nop, Abx}, {alu.Adc, Abx}, {alu.Ror, Abx}, {alu.Rra, Abx}, // 78
		{alu.Nop, Imm}, {alu.Sta, Izx}, {alu.Nop, Imm}, {alu.Sax, Izx}, {alu.Sty, Zp}, {alu.Sta, Zp}, {alu.Stx, Zp}, {alu.Sax, Zp}, // 80
		{alu.Dey, Imp}, {alu.Nop, Imm}, {alu.Txa, Imp}, {alu.Jam, Imp}, {alu.Sty, Abs}, {alu.Sta, Abs}, {alu.Stx, Abs}, {alu.Sax, Abs}, // 88
		{alu.Bcc, Rel}, {alu.Sta, Izy}, {alu.Jam, Imp}, {alu.Jam, Imp}, {alu.Sty, Zpx}, {alu.Sta, Zpx}, {alu.Stx, Zpy}, {alu.Sax, Zpy}, // 90
		{alu.Tya, Imp}, {alu.Sta, Aby}, {alu.Txs, Imp}, {alu.Jam, Imp}, {alu.Jam, Imp}, {alu.Sta, Abx}, {alu.Jam, Imp}, {alu.Jam, Imp}, // 98
		{alu.Ldy, Imm}, {alu.Lda, Izx}, {alu.Ldx, Imm}, {alu.Lax, Izx}, {alu.Ldy, Zp}, {alu.Lda, Zp}, {alu.Ldx, Zp}, {alu.Lax, Zp}, // a0
		{alu.Tay, Imp}, {alu.Lda, Imm}, {alu.Tax, Imp}, {alu.Jam, Imp}, {alu.Ldy, Abs}, {alu.Lda, Abs}, {alu.Ldx, Abs}, {alu.Lax, Abs}, // a8
		{alu.Bcs, Rel}, {alu.Lda, Izy}, {alu.Jam, Imp}, {alu.Lax, Izy}, {alu.Ldy, Zpx}, {alu.Lda, Zpx}, {alu.Ldx, Zpy}, {alu.Lax, Zpy}, // b0
		{alu.Clv, Imp}, {alu.Lda, Aby}, {alu.Tsx, Imp}, {alu.Las, Aby}, {alu.Ldy, Abx}, {alu.Lda, Abx}, {alu.Ldx, Aby}, {alu.Lax, Aby}, // b8
		{alu.Cpy, Imm}, {alu.Cmp, Izx}, {alu.Nop, Imm}, {alu.Dcp, Izx}, {alu.Cpy, Zp}, {alu.Cmp, Zp}, {alu.Dec, Zp}, {alu.Dcp, Zp}, // c0
		{alu.Iny, Imp}, {alu.Cmp, Imm}, {alu.Dex, Imp}, {alu.Axs, Imm}, {alu.Cpy, Abs}, {alu.Cmp, Abs}, {alu.Dec, Abs}, {alu.Dcp, Abs}, // c8
		{alu.Bne, Rel}, {alu.Cmp, Izy}, {alu.Jam, Imp}, {alu.Dcp, Izy}, {alu.Nop, Zpx}, {alu.Cmp, Zpx}, {alu.Dec, Zpx}, {alu.Dcp, Zpx}, // d0
		{alu.Cld, Imp}, {alu.Cmp, Aby}, {alu.Nop, Imp}, {alu.Dcp, Aby}, {alu.Nop, Abx}, {alu.Cmp, Abx}, {alu.Dec, Abx}, {alu.Dcp, Abx}, // d8
		{alu.Cpx, Imm}, {alu.Sbc, Izx}, {alu.Nop, Imm}, {alu.Isc, Izx}, {alu.Cpx, Zp}, {alu.Sbc, Zp}, {alu.Inc, Zp}, {alu.Isc, Zp}, // e0
		{alu.Inx, Imp}, {alu.Sbc, Imm}, {alu.Nop, Imp}, {alu.Sbc, Imm}, {alu.Cpx, Abs}, {alu.Sbc, Abs}, {alu.Inc, Abs}, {alu.Isc, Abs}, // e8
		{alu.Beq, Rel}, {alu.Sbc, Izy}, {alu.Jam, Imp}, {alu.Isc, Izy}, {alu.Nop, Zpx}, {alu.Sbc, Zpx}, {alu.Inc, Zpx}, {alu.Isc, Zpx}, // f0
		{alu.Sed, Imp}, {alu.Sbc, Aby}, {alu.Nop, Imp}, {alu.Isc, Aby}, {alu.Nop, Abx}, {alu.Sbc, Abx}, {alu.Inc, Abx}, {alu.Isc, Abx}, // f8
	}
}
