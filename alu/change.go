package alu

// Change executes an operation of the kind Changes on m, and returns the new byte too.
func (u Unit) Change(op, m byte) (Unit, byte) {
	if Kind(op) != Changes {
		return u, m
	}
	return changes()[op-Asl](u, m)
}

// changes returns the operations of the kind Changes by their numbers, counted from the first of them.
func changes() [Isc - Asl + 1]func(Unit, byte) (Unit, byte) {
	return [...]func(Unit, byte) (Unit, byte){
		Asl - Asl: Unit.asl, Lsr - Asl: Unit.lsr, Rol - Asl: Unit.rol, Ror - Asl: Unit.ror,
		Inc - Asl: Unit.inc, Dec - Asl: Unit.dec,
		Slo - Asl: Unit.slo, Rla - Asl: Unit.rla, Sre - Asl: Unit.sre,
		Rra - Asl: Unit.rra, Dcp - Asl: Unit.dcp, Isc - Asl: Unit.isc,
	}
}

func (u Unit) asl(m byte) (Unit, byte) { return u.left(m, 0) }

func (u Unit) lsr(m byte) (Unit, byte) { return u.right(m, 0) }

func (u Unit) rol(m byte) (Unit, byte) { return u.left(m, u.carry()) }

func (u Unit) ror(m byte) (Unit, byte) { return u.right(m, u.carry()) }

// left shifts m and inserts a bit; the bit shifted out is the carry.
func (u Unit) left(m, in byte) (Unit, byte) {
	return u.Flag(Carry, m&0x80 != 0).becomes(m<<1 | in)
}

func (u Unit) right(m, in byte) (Unit, byte) {
	return u.Flag(Carry, m&1 != 0).becomes(m>>1 | in<<7)
}

func (u Unit) inc(m byte) (Unit, byte) { return u.becomes(m + 1) }

func (u Unit) dec(m byte) (Unit, byte) { return u.becomes(m - 1) }

// becomes returns the new byte m, with its sign and zero.
func (u Unit) becomes(m byte) (Unit, byte) { return u.signed(m), m }

func (u Unit) slo(m byte) (Unit, byte) {
	u, m = u.asl(m)
	return u.ora(m), m
}

func (u Unit) rla(m byte) (Unit, byte) {
	u, m = u.rol(m)
	return u.and(m), m
}

func (u Unit) sre(m byte) (Unit, byte) {
	u, m = u.lsr(m)
	return u.eor(m), m
}

func (u Unit) rra(m byte) (Unit, byte) {
	u, m = u.ror(m)
	return u.adc(m), m
}

func (u Unit) dcp(m byte) (Unit, byte) {
	u, m = u.dec(m)
	return u.cmp(m), m
}

func (u Unit) isc(m byte) (Unit, byte) {
	u, m = u.inc(m)
	return u.sbc(m), m
}

// onA executes a change on A.
func (u Unit) onA(change func(Unit, byte) (Unit, byte)) Unit {
	u, m := change(u, u.A)
	u.A = m
	return u
}
