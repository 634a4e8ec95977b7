package tone

// Bits of register 0 of a channel that has an envelope.
const (
	loops  = 0x20
	steady = 0x10
	lowest = 0x0f
)

// loudest is the level with which an envelope begins.
const loudest = 15

// envelope is a volume that fades.
type envelope struct {
	level    byte
	divider  byte
	restarts bool
}

func (e *envelope) quarter(control byte) {
	switch {
	case e.restarts:
		e.restarts = false
		e.level = loudest
		e.divider = control & lowest
	case e.divider > 0:
		e.divider--
	default:
		e.divider = control & lowest
		e.fade(control&loops != 0)
	}
}

func (e *envelope) fade(again bool) {
	if e.level > 0 {
		e.level--
	} else if again {
		e.level = loudest
	}
}

func (t *Tone) volume() byte {
	if t.control&steady != 0 {
		return t.control & lowest
	}
	return t.envelope.level
}
