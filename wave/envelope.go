package wave

// Bits of an envelope's register.
const (
	steady = 0x80
	rises  = 0x40
)

// fadeUnit is the number of cycles from gain to gain, at the greatest speed.
const fadeUnit = 8

// envelope is a gain that fades.
type envelope struct {
	gain  byte
	speed byte
	count int
}

func (e *envelope) put(b byte) {
	e.speed = b & numberBits
	e.count = 0
	if b&steady != 0 {
		e.gain = b & numberBits
	}
}

func (e *envelope) clock(register, slowness byte) {
	if register&steady != 0 {
		return
	}
	e.count++
	if e.count < fadeUnit*(int(e.speed)+1)*(int(slowness)+1) {
		return
	}
	e.count = 0
	e.change(register&rises != 0)
}

func (e *envelope) change(up bool) {
	if up && e.gain < loudest {
		e.gain++
	} else if !up && e.gain > 0 {
		e.gain--
	}
}
