package tone_test

import (
	"slices"
	"testing"

	"kotatsu/tone"
)

// kinds holds all kinds of channels.
var kinds = []byte{tone.One, tone.Two, tone.Triangle, tone.Noise}

// put writes registers 0 to 3 of a channel, one after the other.
func put(t *tone.Tone, l ...byte) {
	for reg, b := range l {
		t.Put(byte(reg), b)
	}
}

// enabled returns a channel that is enabled, and whose registers 0 to 3 were written.
func enabled(kind byte, l ...byte) *tone.Tone {
	t := tone.New(kind)
	t.Enable(true)
	put(t, l...)
	return t
}

// times calls a method n times.
func times(n int, call func()) {
	for range n {
		call()
	}
}

// outs returns Out at first and after each of n Clocks.
func outs(t *tone.Tone, n int) []byte {
	l := []byte{t.Out()}
	for range n {
		t.Clock()
		l = append(l, t.Out())
	}
	return l
}

// until returns how many Clocks it takes until Out is another, of at most top.
func until(t *tone.Tone, top int) int {
	b := t.Out()
	for n := 1; n <= top; n++ {
		if t.Clock(); t.Out() != b {
			return n
		}
	}
	return 0
}

// life returns all that a channel tells while it is used for a while.
func life(t *tone.Tone) []byte {
	var l []byte
	look := func() {
		b := t.Out()
		if t.Live() {
			b |= 0x80
		}
		l = append(l, b)
	}
	for n := range 400 {
		look()
		times(3, t.Clock)
		look()
		if n%3 == 0 {
			t.Quarter()
		}
		if n%7 == 0 {
			t.Half()
		}
		if n == 200 {
			t.Put(1, 0x91)
		}
		if n == 230 {
			t.Enable(true)
			put(t, 0x83, 0x99, 0x12, 0x00)
		}
		if n == 300 {
			t.Put(0, 0x43)
		}
	}
	return l
}

func TestP11_1Kinds(t *testing.T) {
	if tone.One != 0 || tone.Two != 1 || tone.Triangle != 2 || tone.Noise != 3 {
		t.Error("numbers of the kinds")
	}
	for kind := range 256 {
		v := tone.New(byte(kind))
		if (v != nil) != (kind < 4) {
			t.Error(kind, v != nil)
		}
	}
	for _, kind := range kinds {
		if tone.New(kind) == tone.New(kind) {
			t.Error(kind, "one tone twice")
		}
	}
}

// TestP11_1New: before anything was called, and when only time goes by, a channel is silent (or the triangle at its first step).
func TestP11_1New(t *testing.T) {
	for i, want := range []byte{0, 0, 15, 0} {
		v := tone.New(kinds[i])
		for n := range 5000 {
			if v.Out() != want || v.Live() {
				t.Fatal(i, n, v.Out(), v.Live())
			}
			v.Clock()
			if n%5 == 0 {
				v.Quarter()
			}
			if n%11 == 0 {
				v.Half()
			}
		}
	}
}

// TestP11_1Disabled: a new channel is disabled.
func TestP11_1Disabled(t *testing.T) {
	for _, kind := range kinds {
		v := tone.New(kind)
		put(v, 0x9f, 0, 0x80, 0xff)
		if v.Live() {
			t.Error(kind)
		}
	}
}

// TestP11_1Zeros: registers that are not written are 0.
func TestP11_1Zeros(t *testing.T) {
	for _, kind := range kinds {
		a, b := tone.New(kind), tone.New(kind)
		put(a, 0, 0, 0)
		if !slices.Equal(life(a), life(b)) {
			t.Error(kind)
		}
		a, b = tone.New(kind), tone.New(kind)
		put(a, 0, 0, 0)
		for _, v := range []*tone.Tone{a, b} {
			v.Enable(true)
			v.Put(3, 8)
			v.Quarter()
		}
		if !slices.Equal(life(a), life(b)) {
			t.Error(kind, "heard")
		}
	}
}

// TestP11_1OtherRegisters: registers beyond 3 do nothing, whenever they are written.
func TestP11_1OtherRegisters(t *testing.T) {
	for _, kind := range kinds {
		for reg := 4; reg < 256; reg++ {
			a := enabled(kind, 0xc4, 0x92, 0x21, 0x09)
			b := enabled(kind, 0xc4, 0x92, 0x21, 0x09)
			for _, n := range []byte{0, 0xff, 0x5a} {
				a.Put(byte(reg), n)
			}
			if !slices.Equal(life(a), life(b)) {
				t.Error(kind, reg)
			}
		}
	}
}

// TestP11_1TimerOfPulse: the first Clock advances, and then each beyond as many as the period.
func TestP11_1TimerOfPulse(t *testing.T) {
	for _, kind := range []byte{tone.One, tone.Two} {
		for period := 8; period < 0x800; period += 3 {
			v := enabled(kind, 0x1f, 0x08, byte(period), byte(period>>8))
			if v.Out() != 0 {
				t.Fatal(kind, period, v.Out())
			}
			if a, b, c := until(v, 1), until(v, 3000), until(v, 30000); a != 1 || b != period+1 || c != 7*(period+1) {
				t.Fatal(kind, period, a, b, c)
			}
		}
	}
}

func TestP11_1TimerOfTriangle(t *testing.T) {
	for period := range 0x800 {
		v := enabled(tone.Triangle, 0xff, 0, byte(period), byte(period>>8))
		v.Quarter()
		if a, b, c := until(v, 1), until(v, 3000), until(v, 3000); a != 1 || b != period+1 || c != period+1 || v.Out() != 12 {
			t.Fatal(period, a, b, c, v.Out())
		}
	}
}

// TestP11_1TimerOfNoise: the shift register's lowest bit is 0 from the first step to the fourteenth.
func TestP11_1TimerOfNoise(t *testing.T) {
	for i, steps := range []int{4, 8, 16, 32, 64, 96, 128, 160, 202, 254, 380, 508, 762, 1016, 2034, 4068} {
		for _, more := range []byte{0, 0x10, 0x20, 0x40, 0x70} {
			v := enabled(tone.Noise, 0x1f, 0xff, byte(i)|more, 0x0f)
			if v.Out() != 0 {
				t.Fatal(i, v.Out())
			}
			if a, b, c := until(v, 1), until(v, 60000), until(v, 60000); a != 1 || b != 14*steps || c != steps {
				t.Fatal(i, more, a, b, c)
			}
		}
	}
}

// TestP11_1PeriodParts: register 2 sets the lowest eight bits, register 3 the three above them.
func TestP11_1PeriodParts(t *testing.T) {
	period := func(writes ...[2]byte) int {
		v := enabled(tone.Triangle, 0xff)
		v.Put(3, 0)
		for _, w := range writes {
			v.Put(w[0], w[1])
		}
		v.Quarter()
		v.Clock()
		return until(v, 3000) - 1
	}
	for i, c := range []struct {
		got, want int
	}{
		{period(), 0},
		{period([2]byte{2, 0xff}), 0xff},
		{period([2]byte{3, 0xff}), 0x700},
		{period([2]byte{3, 0xff}, [2]byte{2, 0x55}), 0x755},
		{period([2]byte{2, 0xff}, [2]byte{3, 0xfa}, [2]byte{2, 0x34}, [2]byte{3, 0x09}), 0x134},
		{period([2]byte{2, 0xff}, [2]byte{3, 0x07}, [2]byte{2, 0}), 0x700},
		{period([2]byte{2, 0xff}, [2]byte{3, 0x07}, [2]byte{3, 0}), 0xff},
		{period([2]byte{2, 0x12}, [2]byte{1, 0xff}, [2]byte{0, 0xfe}), 0x12},
	} {
		if c.got != c.want {
			t.Errorf("%d: %x, want %x", i, c.got, c.want)
		}
	}
}

// TestP11_1TimerGoesOn: a new period counts from the next reload on.
func TestP11_1TimerGoesOn(t *testing.T) {
	v := enabled(tone.Triangle, 0xff, 0, 100, 0)
	v.Quarter()
	times(11, v.Clock) // 90 are left
	v.Put(2, 7)
	if a, b := until(v, 3000), until(v, 3000); a != 91 || b != 8 {
		t.Error(a, b)
	}
	v.Put(3, 1)
	if a, b := until(v, 3000), until(v, 3000); a != 8 || b != 0x108 {
		t.Error(a, b)
	}

	v = enabled(tone.One, 0x1f, 0x08, 100, 0)
	times(11, v.Clock)
	v.Put(2, 50)
	if a, b := until(v, 3000), until(v, 3000); a != 91 || b != 7*51 {
		t.Error(a, b)
	}
	times(20, v.Clock)
	v.Put(3, 0) // at the first step again, with the timer going on
	if a, b := until(v, 3000), until(v, 3000); a != 31 || b != 51 {
		t.Error(a, b)
	}

	v = enabled(tone.Noise, 0x1f, 0, 0x0f, 0)
	times(1+4068*13, v.Clock)
	times(68, v.Clock)
	v.Put(2, 0)
	v.Put(3, 0xff)
	if a, b := until(v, 5000), until(v, 5000); a != 4000 || b != 4 {
		t.Error(a, b)
	}
}

// TestP11_1TimerOfSilence: the timer goes on while nothing is heard.
func TestP11_1TimerOfSilence(t *testing.T) {
	v := tone.New(tone.Triangle)
	put(v, 0xff, 0, 9, 0)
	times(14, v.Clock) // reloaded by the first and the eleventh
	v.Enable(true)
	v.Put(3, 0)
	v.Quarter()
	if a, b := until(v, 100), until(v, 100); a != 7 || b != 10 {
		t.Error(a, b)
	}
	v = tone.New(tone.Noise)
	put(v, 0x1f, 0, 0, 0)
	times(4*13+2, v.Clock) // thirteen steps and the first are done
	v.Enable(true)
	v.Put(3, 0)
	if a := until(v, 100); v.Out() != 0 || a != 3 {
		t.Error(a, v.Out())
	}
	v = tone.New(tone.Two)
	put(v, 0x1f, 0x08, 0, 0)
	times(6, v.Clock) // muted, and at the seventh step
	v.Enable(true)
	v.Put(2, 20)
	v.Clock() // at the last
	v.Clock() // the timer goes on with the period
	times(20, v.Clock)
	v.Put(3, 0)
	if a := until(v, 100); a != 21 {
		t.Error(a)
	}
}

func TestP11Example(t *testing.T) {
	if b := tone.New(tone.Triangle).Out(); b != 15 {
		t.Error(b)
	}
	if b := tone.New(tone.Noise).Out(); b != 0 {
		t.Error(b)
	}
}

// TestP11Copy: at any time in its life, a copy lives as its original does, and neither knows of the other.
func TestP11Copy(t *testing.T) {
	for _, kind := range kinds {
		for n := range 60 {
			begin := func() *tone.Tone {
				v := enabled(kind, 0x03, 0xa1, 0x43, 0x10)
				if n%2 == 1 {
					v.Put(0, 0x93)
				}
				for i := range n {
					times(i, v.Clock)
					if i%3 != 1 {
						v.Quarter()
					}
					if i%5 != 1 {
						v.Half()
					}
				}
				if n%7 == 3 {
					v.Put(1, 0x92)
					v.Put(3, 0x18)
				}
				if n%11 == 5 {
					v.Enable(false)
				}
				return v
			}
			want := life(begin())
			v := begin()
			c := v.Copy()
			d := v.Copy()
			if c == v || c == d {
				t.Fatal(kind, "the same")
			}
			if !slices.Equal(life(c), want) || !slices.Equal(life(v), want) || !slices.Equal(life(d), want) {
				t.Error(kind, n)
			}
		}
	}
}

func TestP11Nil(t *testing.T) {
	var v *tone.Tone
	for reg := range 256 {
		v.Put(byte(reg), 0xff)
	}
	v.Enable(true)
	v.Enable(false)
	v.Clock()
	v.Quarter()
	v.Half()
	if v.Out() != 0 || v.Live() || v.Copy() != nil {
		t.Error("a nil tone has something")
	}
	tone.New(4).Clock()
}
