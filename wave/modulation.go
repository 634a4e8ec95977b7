package wave

// The modulation counter is a signed number of seven bits.
const (
	counterBits  = 0x7f
	counterRange = 128
	lowest       = -64
	highest      = 63
)

const (
	changeBits = 0x07
	clears     = 4 // the change that sets the counter to 0
)

// changes holds what is added to the counter, by the numbers of the modulation table.
var changes = [8]int{0, 1, 2, 4, 0, -4, -2, -1}

// modulation changes the counter by a table of its own.
type modulation struct {
	table   [numbers]byte
	place   accumulator // in the table
	counter int
}

// enter sets two numbers of the table, and goes behind them.
func (m *modulation) enter(b byte) {
	for range 2 {
		m.table[m.place.position] = b & changeBits
		m.place.step(1)
	}
}

func (m *modulation) clock(pitch int) {
	if !m.place.add(pitch) {
		return
	}
	if t := m.table[m.place.position]; t == clears {
		m.counter = 0
	} else {
		m.counter = signed(m.counter + changes[t])
	}
	m.place.step(1)
}

// signed brings a number that is a little too great or too small into the counter's range.
func signed(n int) int {
	if n > highest {
		return n - counterRange
	}
	if n < lowest {
		return n + counterRange
	}
	return n
}
