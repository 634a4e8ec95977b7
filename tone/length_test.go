package tone_test

import (
	"testing"

	"kotatsu/tone"
)

// lengths is the document's list.
var lengths = []int{10, 254, 20, 2, 40, 4, 80, 6, 160, 8, 60, 10, 14, 12, 26, 14, 12, 16, 24, 18, 48, 20, 96, 22, 192, 24, 72, 26, 16, 28, 32, 30}

// left returns how many Halves it takes until a copy is no longer Live, of at most 300.
func left(t *tone.Tone) int {
	t = t.Copy()
	for n := range 300 {
		if !t.Live() {
			return n
		}
		t.Half()
	}
	return -1
}

func TestP11_2Lengths(t *testing.T) {
	for _, kind := range kinds {
		for b := range 256 {
			if n := left(enabled(kind, 0, 0, 0, byte(b))); n != lengths[b/8] {
				t.Error(kind, b, n)
			}
			v := enabled(kind, 0, 0, 0, 0x08)
			times(3, v.Half)
			v.Put(3, byte(b))
			if n := left(v); n != lengths[b/8] {
				t.Error(kind, b, n, "anew")
			}
		}
	}
}

// TestP11_2Halt: one bit of register 0 holds the length, and that of Triangle is another.
func TestP11_2Halt(t *testing.T) {
	for _, kind := range kinds {
		halt := 0x20
		if kind == tone.Triangle {
			halt = 0x80
		}
		for b := range 256 {
			want := 20
			if b&halt != 0 {
				want = -1
			}
			v := enabled(kind, byte(b), 0, 0, 0x10)
			if n := left(v); n != want {
				t.Errorf("%d: %02x: %d", kind, b, n)
			}
			times(5, v.Half)
			v.Put(0, ^byte(b))
			if want < 0 && left(v) != 20 || want > 0 && left(v) != -1 {
				t.Errorf("%d: %02x turned: %d", kind, b, left(v))
			}
			v.Put(0, 0)
			if n := left(v); want < 0 && n != 20 || want > 0 && n != 15 {
				t.Errorf("%d: %02x ended: %d", kind, b, n)
			}
		}
	}
}

// TestP11_2Zero: a length of 0 stays.
func TestP11_2Zero(t *testing.T) {
	for _, kind := range kinds {
		for _, b := range []byte{0, 0xff} {
			v := enabled(kind, b)
			for n := range 600 {
				if v.Half(); v.Live() {
					t.Fatal(kind, n)
				}
			}
		}
		v := enabled(kind, 0, 0, 0, 0x18)
		v.Half()
		if !v.Live() {
			t.Error(kind, "ended early")
		}
		for n := range 600 {
			if v.Half(); v.Live() {
				t.Fatal(kind, n, "ended")
			}
		}
	}
}

func TestP11_2Enable(t *testing.T) {
	for _, kind := range kinds {
		v := tone.New(kind)
		v.Put(3, 0)
		v.Enable(true)
		if v.Live() {
			t.Error(kind, "what was written before counts")
		}
		v.Put(3, 0)
		v.Enable(true)
		if left(v) != 10 {
			t.Error(kind, left(v), "enabled twice")
		}
		v.Enable(false)
		if v.Live() {
			t.Error(kind, "disabled")
		}
		v.Put(3, 0)
		if v.Live() {
			t.Error(kind, "written while disabled")
		}
		v.Enable(false)
		v.Enable(true)
		if v.Live() {
			t.Error(kind, "the length is back")
		}
		v.Put(3, 0x20)
		if left(v) != 40 {
			t.Error(kind, left(v), "enabled again")
		}
		v.Put(0, 0xff) // a length that is held is ended too
		v.Enable(false)
		if v.Live() {
			t.Error(kind, "held")
		}
	}
}

// TestP11_2Others: no other call changes the length.
func TestP11_2Others(t *testing.T) {
	for _, kind := range kinds {
		v := enabled(kind, 0, 0, 0, 0)
		v.Half()
		times(5000, v.Clock)
		times(50, v.Quarter)
		for reg := range 256 {
			if reg != 3 {
				v.Put(byte(reg), 0x18)
			}
		}
		v.Put(0, 0)
		v.Out()
		if left(v) != 9 {
			t.Error(kind, left(v))
		}
	}
}
