package alu

// model is a unit in other terms than the package's: numbers, and flags one by one, so that both do not err alike.
type model struct {
	a, x, y, s             int
	c, z, i, d, b, f, v, n bool
}

func bitAt(p byte, n int) bool { return int(p)/(1<<n)%2 == 1 }

func one(b bool) int {
	if b {
		return 1
	}
	return 0
}

// signedOf is a byte read as a number from -128 to 127.
func signedOf(m int) int {
	if m > 127 {
		return m - 256
	}
	return m
}

// byteOf is a number modulo 256.
func byteOf(m int) int { return (m%256 + 256) % 256 }

func modelOf(u Unit) *model {
	return &model{
		a: int(u.A), x: int(u.X), y: int(u.Y), s: int(u.S),
		c: bitAt(u.P, 0), z: bitAt(u.P, 1), i: bitAt(u.P, 2), d: bitAt(u.P, 3),
		b: bitAt(u.P, 4), f: bitAt(u.P, 5), v: bitAt(u.P, 6), n: bitAt(u.P, 7),
	}
}

func (k *model) unit() Unit {
	p := one(k.c) + 2*one(k.z) + 4*one(k.i) + 8*one(k.d) + 16*one(k.b) + 32*one(k.f) + 64*one(k.v) + 128*one(k.n)
	return Unit{A: byte(k.a), X: byte(k.x), Y: byte(k.y), S: byte(k.s), P: byte(p)}
}

// tell sets sign and zero.
func (k *model) tell(m int) int {
	k.n, k.z = m > 127, m == 0
	return m
}

// compare sets the flags of b minus m, and returns the difference.
func (k *model) compare(b, m int) int {
	k.c = b >= m
	return k.tell(byteOf(b - m))
}

func (k *model) add(m int) {
	sum, near := k.a+m+one(k.c), signedOf(k.a)+signedOf(m)+one(k.c)
	k.c, k.v = sum > 255, near < -128 || near > 127
	k.a = k.tell(byteOf(sum))
}

func (k *model) subtract(m int) {
	less := 1 - one(k.c)
	rest, near := k.a-m-less, signedOf(k.a)-signedOf(m)-less
	k.c, k.v = rest >= 0, near < -128 || near > 127
	k.a = k.tell(byteOf(rest))
}

// double and halve shift, and insert a bit.
func (k *model) double(m int, in bool) int {
	k.c = m > 127
	return k.tell(byteOf(2*m) + one(in))
}

func (k *model) halve(m int, in bool) int {
	k.c = m%2 == 1
	return k.tell(m/2 + 128*one(in))
}

func (k *model) read(name string, m int) {
	switch name {
	case "NOP":
	case "ORA":
		k.a = k.tell(k.a + m - k.a&m)
	case "AND":
		k.a = k.tell(k.a & m)
	case "EOR":
		k.a = k.tell(k.a + m - 2*(k.a&m))
	case "ADC":
		k.add(m)
	case "SBC":
		k.subtract(m)
	case "CMP":
		k.compare(k.a, m)
	case "CPX":
		k.compare(k.x, m)
	case "CPY":
		k.compare(k.y, m)
	case "LDA":
		k.a = k.tell(m)
	case "LDX":
		k.x = k.tell(m)
	case "LDY":
		k.y = k.tell(m)
	case "BIT":
		k.n, k.v, k.z = m >= 128, m%128 >= 64, k.a&m == 0
	case "LAX":
		k.a, k.x = k.tell(m), m
	case "ANC":
		k.a = k.tell(k.a & m)
		k.c = k.n
	case "ALR":
		k.a = k.halve(k.a&m, false)
	case "ARR":
		k.a = k.halve(k.a&m, k.c)
		k.c = k.a%128 >= 64
		k.v = k.c != (k.a%64 >= 32)
	case "AXS":
		k.x = k.compare(k.a&k.x, m)
	case "LAS":
		k.s = k.tell(k.s & m)
		k.a, k.x = k.s, k.s
	}
}

func (k *model) change(name string, m int) int {
	switch name {
	case "ASL":
		return k.double(m, false)
	case "LSR":
		return k.halve(m, false)
	case "ROL":
		return k.double(m, k.c)
	case "ROR":
		return k.halve(m, k.c)
	case "INC":
		return k.tell(byteOf(m + 1))
	case "DEC":
		return k.tell(byteOf(m - 1))
	}
	parts := map[string][2]string{
		"SLO": {"ASL", "ORA"}, "RLA": {"ROL", "AND"}, "SRE": {"LSR", "EOR"},
		"RRA": {"ROR", "ADC"}, "DCP": {"DEC", "CMP"}, "ISC": {"INC", "SBC"},
	}[name]
	m = k.change(parts[0], m)
	k.read(parts[1], m)
	return m
}

// register is that of a letter.
func (k *model) register(letter byte) *int {
	return map[byte]*int{'A': &k.a, 'X': &k.x, 'Y': &k.y, 'S': &k.s}[letter]
}

func (k *model) self(name string) {
	flags := map[byte]*bool{'C': &k.c, 'I': &k.i, 'V': &k.v, 'D': &k.d}
	switch name {
	case "ASL", "LSR", "ROL", "ROR":
		k.a = k.change(name, k.a)
	case "TXS":
		k.s = k.x
	case "INX", "INY":
		*k.register(name[2]) = k.tell(byteOf(*k.register(name[2]) + 1))
	case "DEX", "DEY":
		*k.register(name[2]) = k.tell(byteOf(*k.register(name[2]) - 1))
	case "CLC", "CLI", "CLV", "CLD":
		*flags[name[2]] = false
	case "SEC", "SEI", "SED":
		*flags[name[2]] = true
	default:
		*k.register(name[2]) = k.tell(*k.register(name[1]))
	}
}

func (k *model) takes(name string) bool {
	return map[string]bool{
		"BPL": !k.n, "BMI": k.n, "BVC": !k.v, "BVS": k.v,
		"BCC": !k.c, "BCS": k.c, "BNE": !k.z, "BEQ": k.z,
	}[name]
}
