package tone_test

import (
	"testing"

	"kotatsu/tone"
)

var pulses = []byte{tone.One, tone.Two}

// cycles holds the duty cycles as the document writes them.
var cycles = []string{"01000000", "01100000", "01111000", "10011111"}

func TestP11_4Duty(t *testing.T) {
	for _, kind := range pulses {
		for duty, cycle := range cycles {
			v := enabled(kind, byte(duty)<<6|0x3b, 0, 8, 0)
			for n := range 100 {
				want := 11 * (cycle[n%8] - '0')
				for range 9 {
					if n > 0 {
						v.Clock()
					}
					if v.Out() != want {
						t.Fatal(kind, cycle, n, v.Out())
					}
				}
			}
		}
	}
}

// TestP11_4Step: a write to register 3 moves to the first step, and no other one moves.
func TestP11_4Step(t *testing.T) {
	for _, kind := range pulses {
		for n := range 16 {
			for reg := range 256 {
				v := enabled(kind, 0xdf, 0, 100, 0)
				times(1+101*n, v.Clock) // one step more than n
				want := cycles[3][(n+1)%8:] + cycles[3]
				v.Put(byte(reg), []byte{0xdf, 0, 100, 0, 0xff}[min(reg, 4)])
				if reg == 3 {
					want = cycles[3]
				}
				for i := range 8 {
					if v.Out() != 15*(want[i]-'0') {
						t.Fatal(kind, n, reg, i, v.Out())
					}
					times(101, v.Clock)
				}
			}
		}
	}
}

// TestP11_4StepMuted: a channel that is muted, by its period or by its target, advances, and is moved to its first step.
func TestP11_4StepMuted(t *testing.T) {
	for _, kind := range pulses {
		for n := range 16 {
			for _, first := range []bool{false, true} {
				want := 15 * (cycles[3][n%8] - '0')
				v := enabled(kind, 0xdf, 0, 3, 0)
				times(4*n, v.Clock)
				o := enabled(kind, 0xdf, 0, 0xff, 7)
				times(0x800*n, o.Clock)
				if v.Out() != 0 || o.Out() != 0 {
					t.Error(kind, n, v.Out(), o.Out(), "muted")
				}
				if first {
					v.Put(3, 0)
					o.Put(3, 7)
					want = 15
				}
				v.Put(2, 100)
				o.Put(1, 8)
				if v.Out() != want || o.Out() != want {
					t.Error(kind, n, first, v.Out(), o.Out())
				}
			}
		}
	}
}

func TestP11_4Live(t *testing.T) {
	for _, kind := range pulses {
		v := enabled(kind, 0xdf, 0, 100, 0x18)
		for n := range 5 {
			want := byte(0)
			if n < 2 {
				want = 15
			}
			if v.Out() != want {
				t.Error(kind, n, v.Out())
			}
			v.Half()
		}
		v.Put(3, 0)
		if v.Out() != 15 {
			t.Error(kind, v.Out(), "with a length again")
		}
		v.Enable(false)
		if v.Out() != 0 {
			t.Error(kind, v.Out(), "disabled")
		}
	}
}

// target is the sweep's target as the document tells it.
func target(kind byte, register, period int) int {
	change := period >> (register % 8)
	if register/8%2 == 0 {
		return period + change
	}
	if kind == tone.One {
		change++
	}
	return max(period-change, 0)
}

func muted(kind byte, register, period int) bool {
	return period < 8 || target(kind, register, period) > 0x7ff
}

// swept returns a channel of that period with nothing done, at a first step that is heard.
func swept(kind byte, register, period int) *tone.Tone {
	return enabled(kind, 0xdf, byte(register), byte(period), byte(period>>8))
}

// TestP11_4Muted: all periods with all that register 1 may hold, whether a sweep goes on or not.
func TestP11_4Muted(t *testing.T) {
	for _, kind := range pulses {
		for register := range 256 {
			for period := range 0x800 {
				want := byte(15)
				if muted(kind, register, period) {
					want = 0
				}
				if v := swept(kind, register, period); v.Out() != want {
					t.Fatalf("%d: %02x: %x: %d", kind, register, period, v.Out())
				}
			}
		}
	}
}

// TestP11_4MutedEdges: some of those by hand.
func TestP11_4MutedEdges(t *testing.T) {
	for _, c := range []struct {
		register, period int
		want             byte
	}{
		{0x00, 7, 0}, {0x00, 8, 15}, {0x08, 7, 0}, {0x08, 8, 15}, {0x88, 0x7ff, 15},
		{0x00, 0x3ff, 15}, {0x00, 0x400, 0}, {0x01, 0x555, 15}, {0x01, 0x556, 0},
		{0x07, 0x7f0, 15}, {0x07, 0x7f1, 0}, {0x87, 0x7f0, 15}, {0x87, 0x7f1, 0}, {0x0f, 0x7ff, 15},
	} {
		for _, kind := range pulses {
			if v := swept(kind, c.register, c.period); v.Out() != c.want {
				t.Errorf("%d: %02x: %x: %d", kind, c.register, c.period, v.Out())
			}
		}
	}
}

// period returns the period of a channel whose timer is at 0 and whose step is the first: so long the second step lasts, whatever is written meanwhile.
func period(t *tone.Tone) int {
	t = t.Copy()
	t.Put(0, 0x1f)
	t.Clock()
	t.Put(1, 0x08)
	t.Put(2, 0xff)
	return until(t, 3000) - 1
}

func TestP11_4Period(t *testing.T) {
	for _, kind := range pulses {
		for p := range 0x800 {
			if n := period(swept(kind, 0, p)); n != p {
				t.Error(kind, p, n)
			}
		}
	}
}

// TestP11_4Sweep: the first Half sweeps, for all registers and many periods.
func TestP11_4Sweep(t *testing.T) {
	for _, kind := range pulses {
		for register := range 256 {
			for p := 0; p < 0x800; p += 1 + p/16*2%37 {
				want := p
				if register >= 0x80 && register%8 != 0 && !muted(kind, register, p) {
					want = target(kind, register, p)
				}
				v := swept(kind, register, p)
				v.Half()
				if n := period(v); n != want {
					t.Fatalf("%d: %02x: %x: %x, want %x", kind, register, p, n, want)
				}
			}
		}
	}
}

// TestP11_4SweepEdges: some of those by hand, where One and Two differ, and at the edges.
func TestP11_4SweepEdges(t *testing.T) {
	for _, c := range []struct{ register, period, one, two int }{
		{0x81, 0x100, 0x180, 0x180},
		{0x89, 0x100, 0x07f, 0x080},
		{0x8f, 0x100, 0x0fd, 0x0fe},
		{0x8f, 0x008, 0x007, 0x008},
		{0x89, 0x008, 0x003, 0x004},
		{0x89, 0x007, 0x007, 0x007},
		{0x81, 0x007, 0x007, 0x007},
		{0x81, 0x555, 0x7ff, 0x7ff},
		{0x81, 0x556, 0x556, 0x556},
		{0x87, 0x7f0, 0x7ff, 0x7ff},
		{0x87, 0x7f1, 0x7f1, 0x7f1},
		{0x8f, 0x7ff, 0x7ef, 0x7f0},
		{0x80, 0x100, 0x100, 0x100},
		{0x88, 0x100, 0x100, 0x100},
		{0x01, 0x100, 0x100, 0x100},
		{0x7f, 0x100, 0x100, 0x100},
	} {
		for i, want := range []int{c.one, c.two} {
			v := swept(pulses[i], c.register, c.period)
			v.Half()
			if n := period(v); n != want {
				t.Errorf("%d: %02x: %x: %x, want %x", i, c.register, c.period, n, want)
			}
		}
	}
}

// TestP11_4SweepSilent: a channel without a length, or with no volume, is swept too.
func TestP11_4SweepSilent(t *testing.T) {
	for _, kind := range pulses {
		v := tone.New(kind)
		put(v, 0x10, 0x81, 0x10, 0)
		times(3, v.Half)
		v.Put(0, 0x3f)
		v.Enable(true)
		v.Put(3, 0) // the period was 36 (base 16), and has no higher bits
		if n := period(v); n != 0x36 {
			t.Errorf("%d: %x", kind, n)
		}
	}
}

// TestP11_4Divider: the divider lets a sweep happen in the first Half and then in every one of so many.
func TestP11_4Divider(t *testing.T) {
	for _, kind := range pulses {
		for wait := range 8 {
			register := 0x87 | wait<<4
			v := swept(kind, register, 0x200)
			v.Put(0, 0xff)
			p := 0x200
			for n := range 40 {
				if n%(wait+1) == 0 {
					p = target(kind, register, p)
				}
				v.Half()
				if got := period(v); got != p {
					t.Fatalf("%d: %02x: Half %d: %x, want %x", kind, register, n, got, p)
				}
			}
		}
	}
}

// TestP11_4DividerUnswept: the divider counts also while nothing is swept: with no bit 80, no shift, or a muted channel.
func TestP11_4DividerUnswept(t *testing.T) {
	for _, kind := range pulses {
		for _, c := range []struct{ register, period int }{{0x37, 0x200}, {0xb0, 0x200}, {0xb7, 0x7ff}, {0xb7, 4}} {
			for n := range 12 {
				v := swept(kind, c.register, c.period)
				v.Put(0, 0xff)
				times(n, v.Half)
				// The write counts in the Half that follows, in which the divider is 0 in every fourth.
				v.Put(1, 0xb7)
				v.Put(2, 0x00)
				v.Put(3, 0x02)
				v.Half()
				want := 0x200
				if n%4 == 0 {
					want = 0x204
				}
				if p := period(v); p != want {
					t.Errorf("%d: %v after %d: %x", kind, c, n, p)
				}
				// Whatever it was, it is set anew.
				times(3, v.Half)
				if p := period(v); p != want {
					t.Errorf("%d: %v after %d and 3: %x", kind, c, n, p)
				}
				v.Half()
				if p := period(v); p != want+4 {
					t.Errorf("%d: %v after %d and 4: %x", kind, c, n, p)
				}
			}
		}
	}
}

// TestP11_4DividerWritten: a write to register 1 sets the divider in the next Half, and only in that, whatever is written.
func TestP11_4DividerWritten(t *testing.T) {
	for _, kind := range pulses {
		v := swept(kind, 0xf7, 0x200)
		v.Put(0, 0xff)
		want := func(n, p int) {
			t.Helper()
			times(n, v.Half)
			if got := period(v); got != p {
				t.Errorf("%d: %x, want %x", kind, got, p)
			}
		}
		want(1, 0x204) // the divider is 7
		want(3, 0x204) // 4
		v.Put(1, 0xf7)
		want(1, 0x204) // 7 again
		want(7, 0x204) // 0
		want(1, 0x208) // 7
		v.Put(1, 0x97)
		want(1, 0x208) // 1
		want(1, 0x208) // 0
		want(1, 0x20c) // 1
		v.Put(1, 0x97)
		want(1, 0x20c) // 1
		v.Put(1, 0x97)
		want(1, 0x20c) // 1
		want(1, 0x20c) // 0
		v.Put(1, 0xa7)
		want(1, 0x210) // 2
		for reg := range 256 {
			if reg != 1 && reg != 2 && reg != 3 {
				v.Put(byte(reg), 0xff)
			}
		}
		v.Put(2, 0x20)
		v.Put(3, 0x02)
		v.Enable(true)
		times(5, v.Quarter)
		want(2, 0x220) // 0
		want(1, 0x224) // 2
	}
}

// TestP11_4SweepTimer: the period that a sweep sets counts from the next reload on.
func TestP11_4SweepTimer(t *testing.T) {
	for _, kind := range pulses {
		v := swept(kind, 0xf1, 0x100)
		v.Put(0, 0x1f)
		times(0x41, v.Clock) // c0 (base 16) are left
		v.Half()
		if a, b := until(v, 3000), until(v, 5000); a != 0xc1 || b != 7*0x181 {
			t.Errorf("%d: %x %x", kind, a, b)
		}
	}
}

// TestP11_4SweepUp: an upward sweep goes on until the channel is muted, and then stays.
func TestP11_4SweepUp(t *testing.T) {
	for _, kind := range pulses {
		v := swept(kind, 0x81, 0x100)
		v.Put(0, 0xff)
		for _, p := range []int{0x180, 0x240, 0x360, 0x510, 0x798, 0x798, 0x798} {
			v.Half()
			if got := period(v); got != p {
				t.Errorf("%d: %x, want %x", kind, got, p)
			}
		}
		if v.Out() != 0 {
			t.Error(kind, v.Out())
		}
		v.Put(1, 0x89)
		if v.Out() != 15 {
			t.Error(kind, v.Out(), "subtracted")
		}
	}
}

// TestP11_4Others: no sweep without a Half, and none by other channels' Halves.
func TestP11_4Others(t *testing.T) {
	for _, kind := range pulses {
		v := swept(kind, 0x81, 0x40)
		v.Put(0, 0xff)
		times(100, v.Quarter)
		times(0x41*8, v.Clock)
		if n := period(v); n != 0x40 {
			t.Errorf("%d: %x", kind, n)
		}
	}
	v := enabled(tone.Triangle, 0xff, 0x81, 0x40, 0)
	times(3, v.Half)
	v.Quarter()
	v.Clock()
	if n := until(v, 3000); n != 0x41 {
		t.Error(n)
	}
	v = enabled(tone.Noise, 0x3f, 0x81, 0x02, 0)
	times(3, v.Half)
	v.Clock()
	if n := until(v, 3000); n != 14*16 {
		t.Error(n)
	}
}
