package wave

const (
	highestPitch = 4095
	highestGain  = 63
)

// Bounds of what the pitch is multiplied by, in parts of 64.
const (
	factorEnd   = 192
	factorLow   = -64
	factorRange = 256
	factorSign  = 0x80
	factorParts = 64
)

// counterParts is what the product of counter and gain is divided by.
const counterParts = 16

// Pitch returns a pitch as the modulation changes it.
func Pitch(pitch, counter, gain int) int {
	if !within(pitch, 0, highestPitch) || !within(counter, lowest, highest) || !within(gain, 0, highestGain) {
		return 0
	}
	u, q := divide(pitch*factor(counter, gain), factorParts)
	if q >= factorParts/2 {
		u++
	}
	return pitch + u
}

func within(n, low, high int) bool {
	return n >= low && n <= high
}

func factor(counter, gain int) int {
	t, r := divide(counter*gain, counterParts)
	if r > 0 && t&factorSign == 0 {
		if counter < 0 {
			t--
		} else {
			t += 2
		}
	}
	for t >= factorEnd {
		t -= factorRange
	}
	for t < factorLow {
		t += factorRange
	}
	return t
}

// divide rounds down, so that the rest is never below 0.
func divide(n, by int) (whole, rest int) {
	rest = (n%by + by) % by
	return (n - rest) / by, rest
}
