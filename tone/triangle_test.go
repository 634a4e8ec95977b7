package tone_test

import (
	"testing"

	"kotatsu/tone"
)

// falling returns what the triangle is at a step.
func falling(step int) byte {
	return []byte{15, 14, 13, 12, 11, 10, 9, 8, 7, 6, 5, 4, 3, 2, 1, 0, 0, 1, 2, 3, 4, 5, 6, 7, 8, 9, 10, 11, 12, 13, 14, 15}[step%32]
}

// running returns a triangle that advances with each Clock.
func running() *tone.Tone {
	v := enabled(tone.Triangle, 0xff, 0, 0, 0)
	v.Quarter()
	return v
}

// goesOn tells whether a triangle advances (its step is not the last of a half).
func goesOn(t *tone.Tone) bool {
	t = t.Copy()
	b := t.Out()
	t.Clock()
	return t.Out() != b
}

func TestP11_5Steps(t *testing.T) {
	for i, b := range outs(running(), 100) {
		if b != falling(i) {
			t.Error(i, b)
		}
	}
}

// TestP11_5Out: Out is that of the step, also in silence and with whatever volume.
func TestP11_5Out(t *testing.T) {
	for n := range 40 {
		v := running()
		times(n, v.Clock)
		for b := range 256 {
			v.Put(0, byte(b))
			v.Put(1, byte(b))
			v.Put(2, byte(b))
			v.Put(3, byte(b))
			if v.Out() != falling(n) {
				t.Error(n, b, v.Out())
			}
		}
		v.Enable(false)
		for range 3000 {
			v.Clock()
			v.Quarter()
			v.Half()
			if v.Out() != falling(n) {
				t.Fatal(n, v.Out(), "disabled")
			}
		}
		v.Enable(true)
		v.Put(0, 1)
		v.Put(2, 0)
		v.Put(3, 0)
		v.Quarter()
		v.Clock()
		for v.Out() == falling(n) && falling(n) != falling(n+1) {
			v.Clock()
		}
		if v.Out() != falling(n+1) {
			t.Error(n, v.Out(), "goes on")
		}
	}
}

// TestP11_5Live: it stands while the length is 0.
func TestP11_5Live(t *testing.T) {
	v := enabled(tone.Triangle, 0x7f, 0, 0, 0x18)
	v.Quarter()
	for n := range 2 {
		if !goesOn(v) {
			t.Error(n)
		}
		v.Half()
	}
	if goesOn(v) {
		t.Error("at length 0")
	}
	v.Put(3, 0)
	if !goesOn(v) {
		t.Error("with a length again")
	}
	v.Enable(false)
	if goesOn(v) {
		t.Error("disabled")
	}
	v.Enable(true)
	if goesOn(v) {
		t.Error("enabled, without a length")
	}
}

// TestP11_5Linear: after a reload, each Quarter counts the linear counter down.
func TestP11_5Linear(t *testing.T) {
	for n := range 128 {
		v := enabled(tone.Triangle, byte(n), 0, 0, 0x08)
		if goesOn(v) {
			t.Error(n, "before a Quarter")
		}
		v.Put(0, byte(n))
		v.Quarter()
		for i := range 300 {
			if goesOn(v) != (i < n) {
				t.Fatal(n, i)
			}
			v.Quarter()
		}
		v.Put(0, 0x85)
		v.Quarter()
		v.Put(2, 0)
		if goesOn(v) {
			t.Error(n, "reloaded without a write to register 3")
		}
	}
}

// TestP11_5Pending: while register 0 has bit 80, each Quarter reloads the counter.
func TestP11_5Pending(t *testing.T) {
	v := enabled(tone.Triangle, 0x83, 0, 0, 0x08)
	for n := range 50 {
		v.Quarter()
		if !goesOn(v) {
			t.Error(n)
		}
	}
	v.Put(0, 0x80)
	v.Quarter()
	if goesOn(v) {
		t.Error("reloaded with 0")
	}
	v.Put(0, 0x82)
	v.Quarter()
	if !goesOn(v) {
		t.Error("reloaded with 2")
	}
	v.Put(0, 0x02)
	v.Quarter() // the last reload
	for n := range 10 {
		if goesOn(v) != (n < 2) {
			t.Error(n, "counted down")
		}
		v.Quarter()
	}
	v.Put(0, 0x8f) // a bit that comes back does not ask for a reload
	times(3, v.Quarter)
	if goesOn(v) {
		t.Error("asked by register 0")
	}
	v.Put(3, 0x08)
	if goesOn(v) {
		t.Error("reloaded without a Quarter")
	}
	v.Quarter()
	if !goesOn(v) {
		t.Error("asked by register 3")
	}
}

// TestP11_5Held: without a pending reload the counter goes down also while register 0 has bit 80.
func TestP11_5Held(t *testing.T) {
	v := enabled(tone.Triangle, 0x04, 0, 0, 0x08)
	v.Quarter()
	v.Put(0, 0xff)
	for n := range 10 {
		if goesOn(v) != (n < 4) {
			t.Error(n)
		}
		v.Quarter()
	}
}

// TestP11_5Disabled: a write to register 3 asks for a reload also while the channel is disabled.
func TestP11_5Disabled(t *testing.T) {
	v := tone.New(tone.Triangle)
	put(v, 0x05, 0, 0, 0x08)
	v.Quarter()
	v.Enable(true)
	v.Put(0, 0x02)
	v.Put(3, 0x08) // and gives it a length
	for n := range 10 {
		if goesOn(v) != (n < 3) { // the first counter is 5, and then 2 and 1
			t.Error(n)
		}
		v.Quarter()
	}

	v = tone.New(tone.Triangle)
	put(v, 0x85, 0, 0, 0x08)
	v.Enable(true)
	v.Quarter() // the counter is 5, and a length is missing
	if goesOn(v) {
		t.Error("without a length")
	}
	v.Put(3, 0x08)
	if !goesOn(v) {
		t.Error("the counter was not reloaded")
	}
}

// TestP11_5Others: Clock and Half leave the linear counter as it is, and Quarter the length.
func TestP11_5Others(t *testing.T) {
	v := enabled(tone.Triangle, 0x03, 0, 0, 0x08)
	v.Quarter()
	times(32, v.Clock)
	times(20, v.Half)
	v.Put(1, 0xff)
	v.Put(2, 0)
	for n := range 10 {
		if goesOn(v) != (n < 3) {
			t.Error(n)
		}
		v.Quarter()
	}
	if left(v) != 234 {
		t.Error(left(v))
	}
}
