package tone

// Bits of register 0 that stop the length counter.
const (
	halts         = 0x20
	haltsTriangle = 0x80
)

// lengths holds the lengths, by the five highest bits of register 3.
var lengths = [32]byte{
	10, 254, 20, 2, 40, 4, 80, 6, 160, 8, 60, 10, 14, 12, 26, 14,
	12, 16, 24, 18, 48, 20, 96, 22, 192, 24, 72, 26, 16, 28, 32, 30,
}

func (t *Tone) halted() bool {
	if t.kind == Triangle {
		return t.control&haltsTriangle != 0
	}
	return t.control&halts != 0
}
