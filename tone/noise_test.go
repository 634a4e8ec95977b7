package tone_test

import (
	"testing"

	"kotatsu/tone"
)

// hiss returns a noise that is heard, and at its first step.
func hiss(mode byte) *tone.Tone {
	return enabled(tone.Noise, 0x1f, 0, mode, 0x0f)
}

// bits returns the lowest bits of the shift register, from now on: as the next that come out are those above it, each is formed from two that came before.
func bits(mode byte, n int) []byte {
	l := make([]byte, n+15)
	l[0] = 1
	for i := range n {
		l[i+15] = l[i] ^ l[i+1]
		if mode&0x80 != 0 {
			l[i+15] = l[i] ^ l[i+6]
		}
	}
	return l
}

func TestP11_6Bits(t *testing.T) {
	for _, mode := range []byte{0, 0x80, 0x70, 0xf0} {
		v := hiss(mode)
		for i, b := range bits(mode, 40000) {
			if v.Out() != 15*(1-b) {
				t.Fatal(mode, i, v.Out())
			}
			times(4, v.Clock)
		}
	}
}

// TestP11_6Round: the long way takes 32767 steps to where it began.
func TestP11_6Round(t *testing.T) {
	v := hiss(0)
	var l []byte
	zeros := 0
	for n := range 2 * 32767 {
		b := v.Out()
		if n < 32767 {
			l = append(l, b)
			if b != 0 {
				zeros++
			}
		} else if b != l[n-32767] {
			t.Fatal(n, b)
		}
		times(4, v.Clock)
	}
	if zeros != 16383 {
		t.Error(zeros)
	}
}

// TestP11_6Modes: the mode counts as it is at each step.
func TestP11_6Modes(t *testing.T) {
	v := hiss(0)
	r := 1
	for n := range 20000 {
		mode := byte(0)
		if n*n%7 > 2 {
			mode = 0x80
		}
		v.Put(2, mode)
		next := r ^ r>>1
		if mode != 0 {
			next = r ^ r>>6
		}
		r = r>>1 | next&1<<14
		v.Clock()
		if v.Out() != byte(15*(1-r&1)) {
			t.Fatal(n, v.Out())
		}
		times(3, v.Clock)
	}
}

// TestP11_6Out: it is the volume, or 0 without a length or at a bit of 1.
func TestP11_6Out(t *testing.T) {
	for control := range 256 {
		v := enabled(tone.Noise, byte(control), 0xff, 0, 0x1f)
		times(4, v.Quarter)
		want := byte(control & 15)
		if control&0x10 == 0 {
			want = 15 - byte(3/(control&15+1))
		}
		if v.Out() != 0 {
			t.Error(control, v.Out(), "at a bit of 1")
		}
		v.Clock()
		if v.Out() != want {
			t.Error(control, v.Out(), want)
		}
		v.Enable(false)
		if v.Out() != 0 {
			t.Error(control, v.Out(), "disabled")
		}
	}
	v := enabled(tone.Noise, 0x1f, 0, 0, 0x18)
	v.Clock()
	v.Half()
	if v.Out() != 15 {
		t.Error(v.Out())
	}
	if v.Half(); v.Out() != 0 {
		t.Error(v.Out(), "at length 0")
	}
}

// TestP11_6Writes: no write starts the shift register anew, and it goes on unheard.
func TestP11_6Writes(t *testing.T) {
	v := hiss(0)
	l := bits(0, 3000)
	for i, b := range l {
		if v.Out() != 15*(1-b) {
			t.Fatal(i, v.Out())
		}
		put(v, 0x1f, byte(i), 0, byte(i))
		v.Enable(i%5 == 0)
		times(4, v.Clock)
		v.Quarter()
		v.Half()
		v.Enable(true)
		v.Put(3, 0x0f)
	}
}
