package wave_test

import (
	"math"
	"testing"

	"kotatsu/wave"
)

// pitched is Pitch by fractions.
func pitched(pitch, counter, gain int) int {
	exact := float64(counter*gain) / 16
	t := math.Floor(exact)
	if t != exact && math.Mod(t+1024, 256) < 128 {
		if counter < 0 {
			t--
		} else {
			t += 2
		}
	}
	t = math.Mod(t+64+1024, 256) - 64
	return pitch + int(math.Floor(float64(pitch)*t/64+0.5))
}

func TestP13_3Pitch(t *testing.T) {
	for counter := -64; counter < 64; counter++ {
		for gain := range 64 {
			for pitch := 0; pitch < 4096; pitch += 1 + (pitch+counter+64+gain)%37 {
				if n, want := wave.Pitch(pitch, counter, gain), pitched(pitch, counter, gain); n != want {
					t.Fatal(pitch, counter, gain, n, want)
				}
			}
			if n, want := wave.Pitch(4095, counter, gain), pitched(4095, counter, gain); n != want {
				t.Fatal(counter, gain, n, want)
			}
		}
	}
}

// TestP13_3Cases: by hand, each way through the rule.
func TestP13_3Cases(t *testing.T) {
	for _, c := range [][4]int{
		{1000, 0, 63, 1000},
		{1000, 63, 0, 1000},
		{64, 16, 1, 65},                   // no rest
		{64, 1, 1, 66},                    // a rest: 0 and 2
		{64, 17, 1, 67},                   // 1 and 2
		{64, -16, 1, 63},                  // no rest
		{64, -1, 1, 63},                   // bit 80 is set: -1 stays
		{64, -33, 4, 64 - 9},              // -8.25 is -9
		{64, 63, 32, 190},                 // 126
		{64, 63, 33, 193},                 // 129.9: bit 80 is set, 129
		{64, 62, 33, 193},                 // 127.9: 127 and 2
		{64, 63, 48, 253},                 // 189
		{64, 63, 49, 64 + 192 - 256},      // 192.9: bit 80 is set, 192 is -64
		{64, 63, 63, 64 + 248 - 256},      // 248.06: 248
		{64, -64, 16, 0},                  // -64 stays
		{64, -64, 17, 64 - 68 + 256},      // below -64
		{64, -64, 32, 64 + 128},           // -128
		{64, -43, 48, 64 + 256 - 129},     // no rest
		{64, -61, 35, 64 + 256 - 134 - 1}, // -133.4 is -134, which does not have bit 80: -135
		{1, 16, 31, 1},                    // 31 64ths
		{1, 16, 32, 2},                    // 32 64ths are rounded up
		{1, -32, 16, 1},                   // -32 64ths as well: to 0
		{1, -33, 16, 0},
		{4095, 0, 0, 4095},
		{0, 63, 63, 0},
	} {
		if n := wave.Pitch(c[0], c[1], c[2]); n != c[3] {
			t.Error(c, n)
		}
	}
}

func TestP13_3Wrong(t *testing.T) {
	for _, c := range [][3]int{
		{-1, 0, 0}, {4096, 0, 0}, {1000, -65, 0}, {1000, 64, 0}, {1000, 0, -1}, {1000, 0, 64},
		{math.MaxInt, 1, 1}, {math.MinInt, 1, 1}, {1000, math.MaxInt, 1}, {1000, math.MinInt, 1}, {1000, 1, math.MaxInt}, {1000, 1, math.MinInt},
	} {
		if n := wave.Pitch(c[0], c[1], c[2]); n != 0 {
			t.Error(c, n)
		}
	}
	for _, c := range [][3]int{{4095, 0, 0}, {1000, -64, 0}, {1000, 63, 0}, {1000, 0, 63}} {
		if n := wave.Pitch(c[0], c[1], c[2]); n != c[0] {
			t.Error(c, n)
		}
	}
}
