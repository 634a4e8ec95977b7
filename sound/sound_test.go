package sound_test

import (
	"slices"
	"testing"

	"kotatsu/sound"
	"kotatsu/tone"
)

// quiet is what is heard of a new sound unit: the triangle's first step.
const quiet = 851 * 15

// weights holds how loud the tones are, by their kinds.
var weights = []int{752, 752, 851, 494}

func put(s *sound.Sound, at uint16, bs ...byte) {
	for i, b := range bs {
		s.Put(at+uint16(i), b)
	}
}

func clocks(s *sound.Sound, n int) {
	for range n {
		s.Clock()
	}
}

// answers returns what the calls without an effect answer.
func answers(s *sound.Sound) [5]int {
	at, ok := s.Asks()
	return [5]int{s.Out(), int(at), number(ok), number(s.IRQ()), int(s.Copy().Get())}
}

func number(b bool) int {
	if b {
		return 1
	}
	return 0
}

// alike holds two sound units against each other for n cycles.
func alike(t *testing.T, what any, a, b *sound.Sound, n int) {
	t.Helper()
	for i := range n {
		if x, y := answers(a), answers(b); x != y {
			t.Fatal(what, i, x, y)
		}
		if _, ok := a.Asks(); ok {
			a.Give(byte(i))
			b.Give(byte(i))
		}
		a.Clock()
		b.Clock()
	}
}

// busy returns a sound unit in which all channels are heard.
func busy() *sound.Sound {
	s := sound.New()
	s.Put(0x4015, 0x0f)
	put(s, 0x4000, 0xe2, 0xbb, 0x40, 0x4a)
	put(s, 0x4004, 0xa5, 0x99, 0x21, 0x5b)
	put(s, 0x4008, 0x25, 0, 0x30, 0x68)
	put(s, 0x400c, 0x03, 0, 0x05, 0x78)
	put(s, 0x4010, 0x8d, 0x40, 0x17, 0x09)
	s.Put(0x4015, 0x1f)
	return s
}

func TestP12_1New(t *testing.T) {
	s := sound.New()
	for i := range 29829 {
		if s.Out() != quiet || s.Get() != 0 || s.IRQ() {
			t.Fatal(i, s.Out())
		}
		if at, ok := s.Asks(); at != 0 || ok {
			t.Fatal(i, at)
		}
		s.Clock()
	}
}

// TestP12_1Registers: each register of a tone is where the document says, held against a tone alone.
func TestP12_1Registers(t *testing.T) {
	for kind := range 4 {
		for reg := range 4 {
			for b := range 256 {
				s, v := sound.New(), tone.New(byte(kind))
				s.Put(0x4015, 1<<kind)
				v.Enable(true)
				for r, x := range []byte{0xd9, 0x08, 0x81, 0x19} {
					if r == reg {
						x = byte(b)
					}
					s.Put(uint16(0x4000+4*kind+r), x)
					v.Put(byte(r), x)
				}
				s.Put(0x4017, 0x80)
				v.Quarter()
				v.Half()
				for i := range 300 {
					want := weights[kind] * int(v.Out())
					if kind != tone.Triangle {
						want += quiet
					}
					if s.Out() != want || s.Get() != byte(number(v.Live())<<kind) {
						t.Fatalf("%d %d %02x, cycle %d: %d, want %d", kind, reg, b, i, s.Out(), want)
					}
					s.Clock()
					if kind >= tone.Triangle || i%2 == 1 {
						v.Clock()
					}
				}
			}
		}
	}
}

func TestP12_1Enable(t *testing.T) {
	lengths := []uint16{0x4003, 0x4007, 0x400b, 0x400f}
	for b := range 256 {
		s := sound.New()
		s.Put(0x4015, byte(b))
		for _, at := range lengths {
			s.Put(at, 8)
		}
		if n := s.Get(); int(n)&15 != b&15 {
			t.Errorf("%02x: %02x", b, n)
		}
		s.Put(0x4015, 0x0f)
		if n := s.Get(); int(n)&15 != b&15 {
			t.Errorf("%02x: %02x, all enabled", b, n)
		}
		for _, at := range lengths {
			s.Put(at, 8)
		}
		s.Put(0x4015, byte(^b))
		if n := s.Get(); int(n)&15 != ^b&15 {
			t.Errorf("%02x: %02x, turned", b, n)
		}
	}
}

// TestP12_1Others: no other address has an effect.
func TestP12_1Others(t *testing.T) {
	for _, b := range []byte{0, 0x5a, 0xff} {
		s, other := busy(), busy()
		clocks(s, 1234)
		clocks(other, 1234)
		for at := range 0x10000 {
			if at >= 0x4000 && at <= 0x4013 || at == 0x4015 || at == 0x4017 {
				continue
			}
			s.Put(uint16(at), b)
		}
		alike(t, b, s, other, 31000)
	}
}

// triangle returns what is heard after some steps of the triangle alone.
func triangle(steps int) int {
	if steps %= 32; steps < 16 {
		return 851 * (15 - steps)
	}
	return 851 * (steps - 16)
}

// TestP12_2FrameFirst: a step of the frame counter counts in its own cycle for the tones.
func TestP12_2FrameFirst(t *testing.T) {
	s := sound.New()
	s.Put(0x4015, 4)
	put(s, 0x4008, 2, 0, 0, 0) // linear counter 2, a step each cycle
	for i := range 29829 {
		s.Clock()
		// the first Quarter starts the triangle, the third stops it
		want := triangle(min(max(i+1-7456, 0), 22370-7456))
		if s.Out() != want {
			t.Fatal(i, s.Out(), want)
		}
	}

	s = sound.New()
	s.Put(0x4015, 4)
	put(s, 0x4008, 0x7f, 0, 0, 0x18) // the length 2
	s.Put(0x4017, 0x80)
	for i := range 20000 {
		s.Clock()
		if want := triangle(min(i+1, 14912)); s.Out() != want {
			t.Fatal(i, s.Out(), want)
		}
	}
}

// changes returns in which of the next n cycles Out changes, counted from 1.
func changes(s *sound.Sound, n int) []int {
	var l []int
	for i := range n {
		was := s.Out()
		if s.Clock(); s.Out() != was {
			l = append(l, i+1)
		}
	}
	return l
}

// TestP12_2Pulses: the timers of One and Two run in the even cycles alone, whatever was written.
func TestP12_2Pulses(t *testing.T) {
	for _, first := range []uint16{0x4000, 0x4004} {
		for _, before := range []int{0, 1, 2, 3, 100, 101, 29829, 29830, 29831} {
			s := sound.New()
			clocks(s, before)
			s.Put(0x4017, 0x40)
			s.Put(0x4015, 3)
			put(s, first, 0x9f, 0x08, 0x63, 0) // a step each 100 clocks, heard from the first to the fourth
			begin := 2 - before%2
			want := []int{begin, begin + 800, begin + 1600, begin + 2400, begin + 3200}
			if l := changes(s, 4000); !slices.Equal(l, want) {
				t.Error(first, before, l)
			}
		}
	}
}

// TestP12_2Others: the timers of Triangle and Noise run in each cycle.
func TestP12_2Others(t *testing.T) {
	s := sound.New()
	s.Put(0x4015, 4)
	put(s, 0x4008, 0xff, 0, 0x63, 0)
	s.Put(0x4017, 0x80)
	for i := range 5000 {
		s.Clock()
		if want := triangle(i/100 + 1); s.Out() != want {
			t.Fatal(i, s.Out(), want)
		}
	}
	s = sound.New()
	v := tone.New(tone.Noise)
	v.Enable(true)
	s.Put(0x4015, 8)
	for reg, b := range []byte{0x1f, 0, 4, 0} {
		s.Put(uint16(0x400c+reg), b)
		v.Put(byte(reg), b)
	}
	for i := range 5000 {
		s.Clock()
		v.Clock()
		if want := quiet + 494*int(v.Out()); s.Out() != want {
			t.Fatal(i, s.Out(), want)
		}
	}
}

// TestP12_2Out: each channel has a weight of its own, and all are added.
func TestP12_2Out(t *testing.T) {
	for n := range 16 {
		one, two, noise, level := n, (n*7+3)%16, (n*5+9)%16, n*8+3
		s := sound.New()
		s.Put(0x4015, 0x0f)
		put(s, 0x4000, 0xf0|byte(one), 0x08, 0xff, 0)
		put(s, 0x4004, 0xf0|byte(two), 0x08, 0xff, 0)
		put(s, 0x4008, 0xff, 0, 0, 0)
		put(s, 0x400c, 0x30|byte(noise), 0, 0x0f, 0)
		s.Put(0x4011, byte(level))
		if want := 752*(one+two) + quiet + 335*level; s.Out() != want {
			t.Error(n, s.Out(), want)
		}
		s.Put(0x4017, 0x80)
		clocks(s, n+1) // the pulses step to what is not heard, the noise to what is
		want := triangle(n+1) + 494*noise + 335*level
		if n == 0 {
			want += 752 * (one + two)
		}
		if s.Out() != want {
			t.Error(n, s.Out(), want, "later")
		}
	}
}

func TestP12_5Get(t *testing.T) {
	for b := range 32 {
		for _, irq := range []byte{0, 0x40, 0x80, 0xc0} {
			s := sound.New()
			s.Put(0x4010, 0x80)
			if irq&0x80 != 0 {
				s.Put(0x4015, 0x10)
				s.Give(0)
			}
			clocks(s, 29829)
			if irq&0x40 == 0 {
				s.Get()
			}
			request := s.Copy()
			s.Put(0x4015, byte(b)&0x0f)
			s.Put(0x4010, 0x80)
			for _, at := range []uint16{0x4003, 0x4007, 0x400b, 0x400f} {
				s.Put(at, 8)
			}
			want := byte(b)&0x0f | irq&0x40 // the write has cleared the sample's request
			if n := s.Get(); n != want {
				t.Errorf("%02x %02x: %02x", b, irq, n)
			}
			if n := s.Get(); n != want&^0x40 || s.IRQ() {
				t.Errorf("%02x %02x: %02x, again", b, irq, n)
			}
			if request.IRQ() != (irq != 0) || request.Get() != irq {
				t.Errorf("%02x %02x: requests", b, irq)
			}
			if request.IRQ() != (irq&0x80 != 0) || request.Get() != irq&0x80 {
				t.Errorf("%02x %02x: requests, again", b, irq)
			}
			s.Put(0x4015, byte(b))
			if n := s.Get(); n != byte(b) {
				t.Errorf("%02x %02x: %02x, with a sample", b, irq, n)
			}
		}
	}
}

// TestP12_5GetClears: reading the status changes nothing but the frame counter's request.
func TestP12_5GetClears(t *testing.T) {
	for _, n := range []int{0, 5000, 29829, 40000} {
		s, other := busy(), busy()
		clocks(s, n)
		clocks(other, n)
		s.Get()
		s.Get()
		other.Put(0x4017, 0x40) // clears it, too, but sets the count to 0
		other.Put(0x4017, 0)
		s.Put(0x4017, 0)
		alike(t, n, s, other, 40000)
	}
}

func TestP12_5Copy(t *testing.T) {
	for _, n := range []int{0, 1, 100, 7456, 29829, 50001} {
		s, other := busy(), busy()
		clocks(s, n)
		clocks(other, n)
		c := s.Copy()
		for i := range 3000 { // nothing that is done to the copy is seen in what was copied
			c.Put(uint16(0x4000+i%0x18), byte(i*7))
			c.Give(byte(i))
			c.Clock()
			c.Get()
		}
		c = s.Copy()
		alike(t, n, s, other, 9000)
		again := busy()
		clocks(again, n)
		alike(t, n, c, again, 40000) // and nothing the other way round
	}
}

func TestP12_5Nil(t *testing.T) {
	var s *sound.Sound
	for at := range 0x10000 {
		s.Put(uint16(at), 0xff)
	}
	s.Clock()
	s.Give(1)
	if at, ok := s.Asks(); at != 0 || ok {
		t.Error(at, ok)
	}
	if s.Get() != 0 || s.Out() != 0 || s.IRQ() || s.Copy() != nil {
		t.Error(s.Get(), s.Out())
	}
}
