package sound_test

import (
	"slices"
	"testing"

	"kotatsu/sound"
)

// Where in a frame there are Quarters and Halves, in both modes, and its length.
var (
	quarters = [][]int{{7457, 14913, 22371, 29829}, {7457, 14913, 22371, 37281}}
	halves   = [][]int{{14913, 29829}, {14913, 37281}}
	frames   = []int{29830, 37282}
)

// counted returns a sound unit whose Quarters and Halves can be counted by the two functions below.
func counted() *sound.Sound {
	s := sound.New()
	s.Put(0x4015, 5)
	put(s, 0x4000, 0xe0, 0x08, 0xff, 0x0f) // the level falls by one each Quarter, round and round
	put(s, 0x4008, 0, 0, 0, 0)             // the length 10 falls by one each Half
	return s
}

// level returns the level of One's envelope.
func level(s *sound.Sound) int {
	s = s.Copy()
	s.Put(0x4003, 0x0f) // a step that is heard
	with := s.Out()
	s.Put(0x4015, 4)
	return (with - s.Out()) / 752
}

// left returns the Halves that the triangle's length is long.
func left(s *sound.Sound) int {
	s = s.Copy()
	for n := range 20 {
		if s.Get()&4 == 0 {
			return n
		}
		s.Put(0x4017, 0x80)
	}
	return -1
}

// TestP12_3Frames: the Quarters and Halves of three frames and more, cycle by cycle.
func TestP12_3Frames(t *testing.T) {
	for mode := range 2 {
		s := counted()
		quarter, half := 0, 10
		if mode == 1 {
			s.Put(0x4017, 0x80)
			quarter, half = 1, 9
		}
		for i := range 4 * frames[mode] {
			s.Clock()
			at := (i + 1) % frames[mode]
			if slices.Contains(quarters[mode], at) {
				quarter++
			}
			if slices.Contains(halves[mode], at) {
				half--
			}
			want := 0
			if quarter > 0 {
				want = 15 - (quarter-1)%16
			}
			if level(s) != want {
				t.Fatal(mode, i, level(s), want)
			}
			if left(s) != max(half, 0) {
				t.Fatal(mode, i, left(s), half)
			}
		}
	}
}

// TestP12_3EachTone: a Quarter and a Half are of all four tones.
func TestP12_3EachTone(t *testing.T) {
	for kind := range 4 {
		s := sound.New()
		s.Put(0x4015, 0x0f)
		for other := range 4 {
			b := byte(0x18) // the length 2
			if other == kind {
				b = 0
			}
			put(s, uint16(0x4000+4*other), 0, 0, 0, b)
		}
		clocks(s, 14913)
		if s.Get() != 0x0f {
			t.Error(kind, s.Get())
		}
		clocks(s, 14915)
		if s.Get() != 0x0f {
			t.Error(kind, s.Get())
		}
		if s.Clock(); s.Get() != 1<<kind|0x40 {
			t.Error(kind, s.Get())
		}

		s = sound.New()
		s.Put(0x4015, 1<<kind)
		put(s, uint16(0x4000+4*kind), 0x41, 0x08, 0xff, 0x0f)
		if kind == 3 {
			s.Put(0x400e, 0)
		}
		before := s.Copy()
		clocks(before, 100)
		s.Put(0x4017, 0x80)
		clocks(s, 100)
		if s.Out() == before.Out() {
			t.Error(kind, s.Out(), "no Quarter")
		}
	}
}

// TestP12_3Both: a write that selects the second mode again brings both again.
func TestP12_3Both(t *testing.T) {
	s := counted()
	s.Put(0x4017, 0x80)
	if level(s) != 15 || left(s) != 9 {
		t.Error(level(s), left(s))
	}
	s.Put(0x4017, 0xc0)
	if level(s) != 14 || left(s) != 8 {
		t.Error(level(s), left(s))
	}
}

// requested returns in which of the next n cycles a request is there that was not before; each is cleared.
func requested(s *sound.Sound, n int) []int {
	var l []int
	for i := range n {
		s.Clock()
		if s.IRQ() {
			l = append(l, i+1)
		}
		s.Get()
	}
	return l
}

func TestP12_3IRQ(t *testing.T) {
	s := sound.New()
	if l := requested(s, 90000); !slices.Equal(l, []int{29829, 29829 + 29830, 29829 + 2*29830}) {
		t.Error(l)
	}
	for b := range 256 {
		for _, before := range []int{0, 1, 7457, 29828, 29829, 29830} {
			s := sound.New()
			clocks(s, before)
			s.Get()
			s.Put(0x4017, byte(b))
			var want []int
			if b&0xc0 == 0 {
				want = []int{29829}
			}
			n := 29900
			if b&0x3f == 0 {
				n = 38000 // to the end of the second mode's frame
			}
			if l := requested(s, n); !slices.Equal(l, want) {
				t.Errorf("%02x, %d: %d", b, before, l)
			}
		}
	}
}

// TestP12_3Pending: a request stays till it is cleared, by a write that inhibits it or a reading of the status.
func TestP12_3Pending(t *testing.T) {
	for b := range 256 {
		s := sound.New()
		clocks(s, 29829)
		s.Put(0x4017, byte(b))
		if s.IRQ() != (b&0x40 == 0) {
			t.Errorf("%02x: %t", b, s.IRQ())
		}
		c := s.Copy()
		if c.Get()&0x40 != byte(^b)&0x40 {
			t.Errorf("%02x: %02x", b, c.Get())
		}
		clocks(s, 100)
		s.Put(0x4015, byte(b))
		s.Put(0x4010, byte(b))
		if s.IRQ() != (b&0x40 == 0) {
			t.Errorf("%02x: %t later", b, s.IRQ())
		}
	}
	s := sound.New()
	clocks(s, 100000)
	if !s.IRQ() || s.Get() != 0x40 || s.Get() != 0 {
		t.Error(s.Get())
	}
}

// TestP12_3Write: a write begins a frame, and Quarter and Half follow at once in the second mode alone.
func TestP12_3Write(t *testing.T) {
	for b := range 256 {
		for _, first := range []byte{0, 0x80} {
			for _, before := range []int{0, 1, 7456, 7457, 7458, 14913} {
				s := counted()
				s.Put(0x4017, first)
				clocks(s, before)
				quarter, half := level(s), left(s)
				s.Put(0x4017, byte(b))
				if b&0x80 != 0 {
					quarter, half = next(quarter), half-1
				}
				if level(s) != quarter || left(s) != half {
					t.Fatalf("%02x, %d: %d %d, want %d %d", b, before, level(s), left(s), quarter, half)
				}
				clocks(s, 7456)
				if level(s) != quarter || left(s) != half {
					t.Fatalf("%02x, %d: %d %d, want %d %d, later", b, before, level(s), left(s), quarter, half)
				}
				if s.Clock(); level(s) != next(quarter) || left(s) != half {
					t.Fatalf("%02x, %d: %d %d, want %d %d, with a Quarter", b, before, level(s), left(s), next(quarter), half)
				}
			}
		}
	}
}

// next returns the level after one Quarter more.
func next(level int) int {
	return (level + 15) % 16
}

// TestP12_3Modes: what follows a write is of its mode, at any time.
func TestP12_3Modes(t *testing.T) {
	s := counted()
	clocks(s, 20000)
	s.Put(0x4017, 0x80)
	clocks(s, 37280)
	was := level(s)
	if s.Clock(); level(s) != next(was) {
		t.Error(level(s), was)
	}
	s.Put(0x4017, 0)
	clocks(s, 29828)
	was = level(s)
	if s.Clock(); level(s) != next(was) || !s.IRQ() {
		t.Error(level(s), was)
	}
	s.Put(0x4017, 0x40)
	s.Put(0x4017, 0x00) // no longer inhibited
	if l := requested(s, 30000); !slices.Equal(l, []int{29829}) {
		t.Error(l)
	}
}
