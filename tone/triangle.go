package tone

// triangleSteps is the number of steps of the triangle, of which one half falls and the other rises.
const triangleSteps = 32

// Parts of register 0 of Triangle.
const (
	keeps  = 0x80 // a reload stays pending
	counts = 0x7f
)

// linear is the counter that stops the triangle more finely than its length.
type linear struct {
	counter byte
	pending bool // a reload
}

func (l *linear) quarter(control byte) {
	if l.pending {
		l.counter = control & counts
	} else if l.counter > 0 {
		l.counter--
	}
	if control&keeps == 0 {
		l.pending = false
	}
}

func (t *Tone) advanceTriangle() {
	if t.Live() && t.linear.counter > 0 {
		t.step = (t.step + 1) % triangleSteps
	}
}

func (t *Tone) outTriangle() byte {
	const half = triangleSteps / 2
	if t.step < half {
		return half - 1 - t.step
	}
	return t.step - half
}
