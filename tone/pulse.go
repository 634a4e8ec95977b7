package tone

// dutySteps is the number of steps of a duty cycle.
const dutySteps = 8

// duties holds the duty cycles, by the two highest bits of register 0.
var duties = [4][dutySteps]byte{
	{0, 1, 0, 0, 0, 0, 0, 0},
	{0, 1, 1, 0, 0, 0, 0, 0},
	{0, 1, 1, 1, 1, 0, 0, 0},
	{1, 0, 0, 1, 1, 1, 1, 1},
}

// Bits of register 1.
const (
	sweeps    = 0x80
	waits     = 0x70
	subtracts = 0x08
	shifts    = 0x07
)

// A channel is heard from the shortest period on, up to the longest target.
const (
	shortest = 8
	longest  = 0x7ff
)

// sweep is what changes a period, time and again.
type sweep struct {
	register byte
	divider  byte
	written  bool // since the last Half
}

func (s *sweep) put(b byte) {
	s.register = b
	s.written = true
}

// count counts the divider down, or sets it anew.
func (s *sweep) count() {
	if s.divider == 0 || s.written {
		s.divider = s.register & waits >> 4
	} else {
		s.divider--
	}
	s.written = false
}

func (s *sweep) due() bool {
	return s.divider == 0 && s.register&sweeps != 0 && s.register&shifts != 0
}

func (t *Tone) halfSweep() {
	if t.sweep.due() && !t.muted() {
		t.period = t.target()
	}
	t.sweep.count()
}

// target returns the period that a sweep would set.
func (t *Tone) target() uint16 {
	change := t.period >> (t.sweep.register & shifts)
	if t.sweep.register&subtracts == 0 {
		return t.period + change
	}
	if t.kind == One {
		change++
	}
	return t.period - min(change, t.period)
}

// muted goes by the target even if no sweep is going on.
func (t *Tone) muted() bool {
	return t.period < shortest || t.target() > longest
}

func (t *Tone) outPulse() byte {
	if duties[t.control>>6][t.step] == 0 || !t.Live() || t.muted() {
		return 0
	}
	return t.volume()
}
