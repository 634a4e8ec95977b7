package wave_test

import (
	"testing"

	"kotatsu/wave"
)

// envelopes holds where each envelope is written and read.
var envelopes = [][2]uint16{{0x4080, 0x4090}, {0x4084, 0x4092}}

func TestP13_1Gain(t *testing.T) {
	for i, e := range envelopes {
		for b := range 256 {
			w := wave.New()
			w.Put(e[0], 0x95)
			w.Put(e[0], byte(b))
			want := 0x15
			if b >= 0x80 {
				want = b % 64
			}
			if n := gain(w, e[1]); n != want {
				t.Errorf("%04x %02x: %d, want %d", e[0], b, n, want)
			}
			if n := gain(w, envelopes[1-i][1]); n != 0 {
				t.Errorf("%04x %02x: %d, the other's", e[0], b, n)
			}
		}
	}
}

// TestP13_2Speeds: with each speed and each number in 408a, the gain changes in the cycle that the document says.
func TestP13_2Speeds(t *testing.T) {
	for i, e := range envelopes {
		for speed := range 64 {
			for m := 0; m < 256; m += 1 + m/3 + speed/8 {
				w := wave.New()
				w.Put(e[0], 0x90)
				w.Put(e[0], byte(speed)|byte(i*0x40))
				w.Put(0x408a, byte(m))
				change := i*2 - 1
				n := 8 * (speed + 1) * (m + 1)
				for _, want := range []int{16, 16 + change} {
					clocks(w, n-1)
					if gain(w, e[1]) != want {
						t.Fatalf("%04x, %d, %d: %d, want %d", e[0], speed, m, gain(w, e[1]), want)
					}
					if w.Clock(); gain(w, e[1]) != want+change {
						t.Fatalf("%04x, %d, %d: %d, want %d", e[0], speed, m, gain(w, e[1]), want+change)
					}
				}
			}
		}
	}
}

// TestP13_2Bounds: a gain rises to 32, and falls to 0, from wherever it is.
func TestP13_2Bounds(t *testing.T) {
	for _, e := range envelopes {
		for first := range 64 {
			for _, rises := range []byte{0, 0x40} {
				w := wave.New()
				w.Put(e[0], 0x80|byte(first))
				w.Put(e[0], rises)
				for i := range 70 {
					want := max(first-i, 0)
					if rises != 0 {
						want = max(first, min(first+i, 32))
					}
					if gain(w, e[1]) != want {
						t.Fatalf("%04x, from %d, %02x, %d: %d", e[0], first, rises, i, gain(w, e[1]))
					}
					clocks(w, 8)
				}
			}
		}
	}
}

// TestP13_2Steady: bit 80 of the register, and bits 80 and 40 of 4083, stop an envelope.
func TestP13_2Steady(t *testing.T) {
	for i, e := range envelopes {
		for b := range 256 {
			w := wave.New()
			for _, e := range envelopes {
				w.Put(e[0], 0x90)
				w.Put(e[0], 0)
			}
			clocks(w, 5)
			w.Put(0x4083, byte(b))
			clocks(w, 100)
			w.Put(0x4083, 0x30)
			want := 16
			if b&0xc0 == 0 {
				want = 16 - 105/8
			}
			if n := gain(w, e[1]); n != want {
				t.Errorf("%04x, 4083 %02x: %d, want %d", e[0], b, n, want)
			}
			if b&0xc0 != 0 { // the count is kept meanwhile
				clocks(w, 2)
				if n := gain(w, e[1]); n != 16 {
					t.Errorf("%04x, 4083 %02x: %d, early", e[0], b, n)
				}
				if w.Clock(); gain(w, e[1]) != 15 {
					t.Errorf("%04x, 4083 %02x: %d, late", e[0], b, gain(w, e[1]))
				}
			}

			w = wave.New()
			for _, e := range envelopes {
				w.Put(e[0], 0x90)
				w.Put(e[0], 0)
			}
			clocks(w, 5)
			w.Put(e[0], byte(b)&0xc0|0x10)
			clocks(w, 17*8)
			want = 16
			switch b >> 6 {
			case 0:
				want = 15
			case 1:
				want = 17
			}
			if n := gain(w, e[1]); n != want {
				t.Errorf("%04x, %02x: %d, want %d", e[0], b, n, want)
			}
			if other := envelopes[1-i]; gain(w, other[1]) != 0 {
				t.Errorf("%04x, %02x: %d, the other's", e[0], b, gain(w, other[1]))
			}
		}
	}
}

// TestP13_2Slower: what 408a holds counts at each cycle, while the envelopes run.
func TestP13_2Slower(t *testing.T) {
	for _, e := range envelopes {
		w := wave.New()
		w.Put(e[0], 0x90)
		w.Put(e[0], 0)
		w.Put(0x408a, 255)
		clocks(w, 1000)
		w.Put(0x408a, 124) // 8 times 125 is 1000, and the count is beyond it in the next cycle
		if gain(w, e[1]) != 16 {
			t.Error(gain(w, e[1]))
		}
		if w.Clock(); gain(w, e[1]) != 15 {
			t.Error(gain(w, e[1]))
		}
		clocks(w, 999)
		if gain(w, e[1]) != 15 {
			t.Error(gain(w, e[1]))
		}
		if w.Clock(); gain(w, e[1]) != 14 {
			t.Error(gain(w, e[1]))
		}
		clocks(w, 500)
		w.Put(0x4083, 0x40)
		w.Put(0x408a, 0) // a count that is not incremented is not held against its end
		clocks(w, 100)
		if gain(w, e[1]) != 14 {
			t.Error(gain(w, e[1]), "stopped")
		}
		w.Put(0x4083, 0)
		if w.Clock(); gain(w, e[1]) != 13 {
			t.Error(gain(w, e[1]), "goes on")
		}
		clocks(w, 7)
		if gain(w, e[1]) != 13 {
			t.Error(gain(w, e[1]), "goes on")
		}
		if w.Clock(); gain(w, e[1]) != 12 {
			t.Error(gain(w, e[1]), "goes on")
		}
	}
}

// TestP13_1Count: a write sets the count of its envelope alone to 0.
func TestP13_1Count(t *testing.T) {
	for i, e := range envelopes {
		w := wave.New()
		for _, e := range envelopes {
			w.Put(e[0], 0x90)
			w.Put(e[0], 0)
		}
		clocks(w, 7)
		w.Put(e[0], 0x40)
		w.Clock()
		if other := envelopes[1-i]; gain(w, e[1]) != 16 || gain(w, other[1]) != 15 {
			t.Errorf("%04x: %d %d", e[0], gain(w, e[1]), gain(w, other[1]))
		}
		clocks(w, 6)
		if gain(w, e[1]) != 16 {
			t.Errorf("%04x: %d", e[0], gain(w, e[1]))
		}
		if w.Clock(); gain(w, e[1]) != 17 {
			t.Errorf("%04x: %d", e[0], gain(w, e[1]))
		}
	}
}
