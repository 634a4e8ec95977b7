package alu

// branchFlags holds the flag of each pair of branches: the first is taken if it is clear, the second if it is set.
var branchFlags = [...]byte{Minus, Over, Carry, Zero}

// Self executes an operation of the kind Selfs, or a shift of A.
func (u Unit) Self(op byte) Unit {
	switch {
	case Kind(op) == Selfs:
		return selfs()[op-Tax](u)
	case op >= Asl && op <= Ror:
		return u.onA(changes()[op-Asl])
	}
	return u
}

// selfs returns the operations of the kind Selfs by their numbers, counted from the first of them.
func selfs() [Sed - Tax + 1]func(Unit) Unit {
	return [...]func(Unit) Unit{
		Tax - Tax: Unit.tax, Tay - Tax: Unit.tay, Txa - Tax: Unit.txa, Tya - Tax: Unit.tya,
		Tsx - Tax: Unit.tsx, Txs - Tax: Unit.txs,
		Inx - Tax: Unit.inx, Iny - Tax: Unit.iny, Dex - Tax: Unit.dex, Dey - Tax: Unit.dey,
		Clc - Tax: Unit.clc, Sec - Tax: Unit.sec, Cli - Tax: Unit.cli, Sei - Tax: Unit.sei,
		Clv - Tax: Unit.clv, Cld - Tax: Unit.cld, Sed - Tax: Unit.sed,
	}
}

func (u Unit) tax() Unit { return u.ldx(u.A) }

func (u Unit) tay() Unit { return u.ldy(u.A) }

func (u Unit) txa() Unit { return u.lda(u.X) }

func (u Unit) tya() Unit { return u.lda(u.Y) }

func (u Unit) tsx() Unit { return u.ldx(u.S) }

// txs sets no flags, as S is no number that a program reckons with.
func (u Unit) txs() Unit {
	u.S = u.X
	return u
}

func (u Unit) inx() Unit { return u.ldx(u.X + 1) }

func (u Unit) iny() Unit { return u.ldy(u.Y + 1) }

func (u Unit) dex() Unit { return u.ldx(u.X - 1) }

func (u Unit) dey() Unit { return u.ldy(u.Y - 1) }

func (u Unit) clc() Unit { return u.Flag(Carry, false) }

func (u Unit) sec() Unit { return u.Flag(Carry, true) }

func (u Unit) cli() Unit { return u.Flag(Mask, false) }

func (u Unit) sei() Unit { return u.Flag(Mask, true) }

func (u Unit) clv() Unit { return u.Flag(Over, false) }

func (u Unit) cld() Unit { return u.Flag(Decimal, false) }

func (u Unit) sed() Unit { return u.Flag(Decimal, true) }

// Store returns what an operation of the kind Stores stores.
func (u Unit) Store(op byte) byte {
	switch op {
	case Sta:
		return u.A
	case Stx:
		return u.X
	case Sty:
		return u.Y
	case Sax:
		return u.A & u.X
	}
	return 0
}

// Takes tells whether a branch is taken.
func (u Unit) Takes(op byte) bool {
	if Kind(op) != Branches {
		return false
	}
	i := op - Bpl
	set := u.P&branchFlags[i/2] != 0
	return set == (i%2 == 1)
}
