package alu

// Read executes an operation of the kind Reads.
func (u Unit) Read(op, m byte) Unit {
	if Kind(op) != Reads {
		return u
	}
	return reads()[op](u, m)
}

// reads returns the operations of the kind Reads by their numbers.
func reads() [Las + 1]func(Unit, byte) Unit {
	return [...]func(Unit, byte) Unit{
		Nop: Unit.nop, Ora: Unit.ora, And: Unit.and, Eor: Unit.eor,
		Adc: Unit.adc, Sbc: Unit.sbc, Cmp: Unit.cmp, Cpx: Unit.cpx, Cpy: Unit.cpy,
		Lda: Unit.lda, Ldx: Unit.ldx, Ldy: Unit.ldy, Bit: Unit.bit,
		Lax: Unit.lax, Anc: Unit.anc, Alr: Unit.alr, Arr: Unit.arr, Axs: Unit.axs, Las: Unit.las,
	}
}

func (u Unit) nop(m byte) Unit { return u }

func (u Unit) ora(m byte) Unit { return u.lda(u.A | m) }

func (u Unit) and(m byte) Unit { return u.lda(u.A & m) }

func (u Unit) eor(m byte) Unit { return u.lda(u.A ^ m) }

func (u Unit) adc(m byte) Unit {
	wide := int(u.A) + int(m) + int(u.carry())
	sum := byte(wide)
	alike := u.A&0x80 == m&0x80
	turned := u.A&0x80 != sum&0x80
	return u.Flag(Carry, wide > 0xff).Flag(Over, alike && turned).lda(sum)
}

func (u Unit) sbc(m byte) Unit { return u.adc(^m) }

func (u Unit) cmp(m byte) Unit { return u.compare(u.A, m) }

func (u Unit) cpx(m byte) Unit { return u.compare(u.X, m) }

func (u Unit) cpy(m byte) Unit { return u.compare(u.Y, m) }

// compare sets the flags of a difference, which itself is dropped.
func (u Unit) compare(b, m byte) Unit {
	return u.Flag(Carry, b >= m).signed(b - m)
}

func (u Unit) lda(m byte) Unit {
	u.A = m
	return u.signed(m)
}

func (u Unit) ldx(m byte) Unit {
	u.X = m
	return u.signed(m)
}

func (u Unit) ldy(m byte) Unit {
	u.Y = m
	return u.signed(m)
}

func (u Unit) bit(m byte) Unit {
	return u.Flag(Minus, m&0x80 != 0).Flag(Over, m&0x40 != 0).Flag(Zero, u.A&m == 0)
}

func (u Unit) lax(m byte) Unit { return u.lda(m).ldx(m) }

func (u Unit) anc(m byte) Unit {
	u = u.and(m)
	return u.Flag(Carry, u.A >= 0x80)
}

func (u Unit) alr(m byte) Unit { return u.and(m).onA(Unit.lsr) }

// arr rotates as ROR does, but its carry and overflow come from the result.
func (u Unit) arr(m byte) Unit {
	u = u.and(m).onA(Unit.ror)
	six, five := u.A&0x40 != 0, u.A&0x20 != 0
	return u.Flag(Carry, six).Flag(Over, six != five)
}

func (u Unit) axs(m byte) Unit {
	both := u.A & u.X
	return u.compare(both, m).ldx(both - m)
}

func (u Unit) las(m byte) Unit {
	u.S &= m
	return u.lax(u.S)
}
