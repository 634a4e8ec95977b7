package tone

// Parts of register 2 of Noise.
const (
	shortens = 0x80
	selects  = 0x0f
)

// noisePeriods holds the Clocks from step to step, by the lowest bits of register 2.
var noisePeriods = [16]uint16{
	4, 8, 16, 32, 64, 96, 128, 160, 202, 254, 380, 508, 762, 1016, 2034, 4068,
}

// highest is the shift register's highest bit.
const highest = 0x4000

// shifter is the shift register, in which noise comes about.
type shifter struct {
	bits  uint16
	short bool
}

func (s *shifter) advance() {
	other := s.bits >> 1
	if s.short {
		other = s.bits >> 6
	}
	turned := (s.bits ^ other) & 1
	s.bits = s.bits>>1 | turned*highest
}

func (t *Tone) putNoise(b byte) {
	t.period = noisePeriods[b&selects] - 1
	t.shifter.short = b&shortens != 0
}

func (t *Tone) outNoise() byte {
	if !t.Live() || t.shifter.bits&1 != 0 {
		return 0
	}
	return t.volume()
}
