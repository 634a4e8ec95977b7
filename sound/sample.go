package sound

// The registers of the sample channel.
const (
	control = iota
	direct
	start
	size
	sampleRegisters
)

// Parts of the control register.
const (
	interrupts = 0x80
	repeats    = 0x40
	selects    = 0x0f
)

// Samples lie in the upper half of the memory, and begin in its upper half.
const (
	lowestAddress = 0x8000
	lowestStart   = 0xc000
	startUnit     = 64
	sizeUnit      = 16
)

const (
	levels   = 0x7f
	stepUp   = 2
	byteBits = 8
)

// rates holds the cycles from bit to bit, by the lowest bits of the control register.
var rates = [16]uint16{
	428, 380, 340, 320, 286, 254, 226, 214, 190, 160, 142, 128, 106, 84, 72, 54,
}

// sample is the sample channel.
type sample struct {
	registers [sampleRegisters]byte
	level     byte
	timer     uint16

	buffer byte
	full   bool // the buffer

	shifter byte
	bits    int // that remain in the shifter
	silent  bool

	address   uint16
	remaining int // bytes
	requests  bool
}

func newSample() sample {
	return sample{bits: byteBits, silent: true}
}

func (s *sample) put(reg uint16, b byte) {
	s.registers[reg] = b
	switch {
	case reg == control && b&interrupts == 0:
		s.requests = false
	case reg == direct:
		s.level = b & levels
	}
}

func (s *sample) enable(on bool) {
	s.requests = false
	if !on {
		s.remaining = 0
	} else if s.remaining == 0 {
		s.begin()
	}
}

func (s *sample) begin() {
	s.address = lowestStart + startUnit*uint16(s.registers[start])
	s.remaining = sizeUnit*int(s.registers[size]) + 1
}

func (s *sample) asks() bool {
	return !s.full && s.remaining > 0
}

func (s *sample) give(b byte) {
	s.buffer = b
	s.full = true
	s.address = (s.address + 1) | lowestAddress
	s.remaining--
	if s.remaining > 0 {
		return
	}
	if s.registers[control]&repeats != 0 {
		s.begin()
	} else if s.registers[control]&interrupts != 0 {
		s.requests = true
	}
}

func (s *sample) clock() {
	if s.timer > 0 {
		s.timer--
		return
	}
	s.timer = rates[s.registers[control]&selects] - 1
	if !s.silent {
		s.play()
	}
	s.bits--
	if s.bits == 0 {
		s.refill()
	}
}

// play lets the level follow the next bit, within what a level can be.
func (s *sample) play() {
	up := s.shifter&1 != 0
	if up && s.level <= levels-stepUp {
		s.level += stepUp
	} else if !up && s.level >= stepUp {
		s.level -= stepUp
	}
	s.shifter >>= 1
}

func (s *sample) refill() {
	s.bits = byteBits
	s.silent = !s.full
	if s.full {
		s.shifter = s.buffer
		s.full = false
	}
}
