package wave

// overflow is the sum at which a table advances.
const overflow = 65536

// accumulator is a position in a table, and a sum that makes it advance.
type accumulator struct {
	sum      int
	position int
}

// add tells whether the sum was too great, and is smaller now.
func (a *accumulator) add(n int) bool {
	a.sum += n
	if a.sum < overflow {
		return false
	}
	a.sum -= overflow
	return true
}

func (a *accumulator) step(n int) {
	a.position = (a.position + n) % numbers
}
