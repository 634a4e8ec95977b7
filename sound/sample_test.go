package sound_test

import (
	"slices"
	"testing"

	"kotatsu/sound"
)

// rates is the document's list.
var rates = []int{428, 380, 340, 320, 286, 254, 226, 214, 190, 160, 142, 128, 106, 84, 72, 54}

// heard returns the level of the sample channel, if it alone is heard.
func heard(s *sound.Sound) int {
	return (s.Out() - quiet) / 335
}

// sampled returns a sound unit with a sample that has been started.
func sampled(control, level, start, size byte) *sound.Sound {
	s := sound.New()
	put(s, 0x4010, control, level, start, size)
	s.Put(0x4015, 0x10)
	return s
}

// asks returns the address that is asked for, or -1.
func asks(s *sound.Sound) int {
	if at, ok := s.Asks(); ok {
		return int(at)
	}
	return -1
}

// played returns the levels at the ends of all bits of the bytes, which are given as they are asked for, at the fastest rate.
func played(s *sound.Sound, bytes ...byte) []int {
	var l []int
	for i := range 8 * (len(bytes) + 1) {
		if len(bytes) > 0 && asks(s) >= 0 {
			s.Give(bytes[0])
			bytes = bytes[1:]
		}
		if s.Clock(); i >= 8 {
			l = append(l, heard(s))
		}
		clocks(s, 53)
	}
	return l
}

// TestP12_4Rates: the cycles from bit to bit, and the first bit of a byte behind eight silent ones.
func TestP12_4Rates(t *testing.T) {
	for b := range 256 {
		rate := rates[b%16]
		s := sampled(byte(b), 64, 0, 1)
		s.Give(0x55)
		var l []int
		for i := range 16*rate + 1 {
			was := heard(s)
			if s.Clock(); heard(s) != was {
				l = append(l, i)
			}
		}
		var want []int
		for i := range 8 {
			want = append(want, (8+i)*rate)
		}
		if !slices.Equal(l, want) {
			t.Errorf("%02x: %d", b, l)
		}
	}
}

// TestP12_4RateChange: another rate counts from the next bit on.
func TestP12_4RateChange(t *testing.T) {
	s := sound.New()
	s.Clock() // the timer is set to 427
	put(s, 0x4010, 0x0f, 64, 0, 0)
	s.Put(0x4015, 0x10)
	s.Give(0xff)
	clocks(s, 427+7*54) // the second to the eighth bit, but for the last cycle
	if heard(s) != 64 {
		t.Error(heard(s))
	}
	if s.Clock(); heard(s) != 66 {
		t.Error(heard(s))
	}
	s.Put(0x4010, 0x0e)
	clocks(s, 53)
	if heard(s) != 66 {
		t.Error(heard(s))
	}
	if s.Clock(); heard(s) != 68 {
		t.Error(heard(s))
	}
	clocks(s, 71)
	if heard(s) != 68 {
		t.Error(heard(s))
	}
	if s.Clock(); heard(s) != 70 {
		t.Error(heard(s))
	}
}

// TestP12_4Level: a bit changes the level by 2, unless that is beyond 0 or 127.
func TestP12_4Level(t *testing.T) {
	for level := range 128 {
		up, down := level+2, level-2
		if level > 125 {
			up = level
		}
		if level < 2 {
			down = level
		}
		for b, want := range []int{down, up} {
			l := played(sampled(0x0f, byte(level), 0, 0), byte(b))
			if l[0] != want {
				t.Error(level, b, l)
			}
		}
	}
}

// TestP12_4Bits: the lowest bit is first, and the bytes follow each other.
func TestP12_4Bits(t *testing.T) {
	for b := range 256 {
		other := byte(b*b>>3) ^ 0x93
		s := sampled(0x0f, 64, 0, 1)
		level := 64
		var want []int
		for _, bits := range []byte{byte(b), other, byte(b)} {
			for i := range 8 {
				level += int(bits>>i&1)*4 - 2
				want = append(want, level)
			}
		}
		if l := played(s, byte(b), other, byte(b)); !slices.Equal(l, want) {
			t.Errorf("%02x: %d, want %d", b, l, want)
		}
	}
}

// TestP12_4Bounds: a level at its bound stays there till bits lead it away.
func TestP12_4Bounds(t *testing.T) {
	s := sampled(0x0f, 122, 0, 9)
	if l := played(s, 0xff, 0x08); !slices.Equal(l, []int{124, 126, 126, 126, 126, 126, 126, 126, 124, 122, 120, 122, 120, 118, 116, 114}) {
		t.Error(l)
	}
	s = sampled(0x0f, 5, 0, 9)
	if l := played(s, 0, 0xf7); !slices.Equal(l, []int{3, 1, 1, 1, 1, 1, 1, 1, 3, 5, 7, 5, 7, 9, 11, 13}) {
		t.Error(l)
	}
}

// TestP12_4Direct: the level is that which was written, whatever the channel does, and its highest bit does not count.
func TestP12_4Direct(t *testing.T) {
	for b := range 256 {
		s := sound.New()
		s.Put(0x4011, byte(b))
		if heard(s) != b%128 {
			t.Errorf("%02x: %d", b, heard(s))
		}
		s = sampled(0x0f, 1, 0, 9)
		played(s, 0xff, 0xff)
		s.Put(0x4011, byte(b))
		if heard(s) != b%128 {
			t.Errorf("%02x: %d, in a sample", b, heard(s))
		}
	}
}

// TestP12_4Silence: without a byte the level stays, and a byte that comes late is heard after eight more bits.
func TestP12_4Silence(t *testing.T) {
	s := sampled(0x0f, 64, 0, 9)
	for i := range 5000 {
		if s.Clock(); heard(s) != 64 {
			t.Fatal(i, heard(s))
		}
	}
	for late := range 3 * 8 * 54 {
		s := sampled(0x0f, 64, 0, 9)
		clocks(s, late)
		s.Give(0xff)
		first := 8 * 54 // the cycle of the first bit that is heard
		for first-8*54+7*54 < late {
			first += 8 * 54
		}
		clocks(s, first-late)
		if heard(s) != 64 {
			t.Fatal(late, heard(s))
		}
		if s.Clock(); heard(s) != 66 {
			t.Fatal(late, heard(s))
		}
		clocks(s, 7*54)
		if heard(s) != 80 {
			t.Fatal(late, heard(s))
		}
		clocks(s, 2000) // and then it is silent again
		if heard(s) != 80 {
			t.Fatal(late, heard(s))
		}
		s.Give(0)
		clocks(s, 16*54)
		if heard(s) != 64 {
			t.Fatal(late, heard(s), "the next byte")
		}
	}
}

// TestP12_4Asks: what is asked for, from the start on to its end.
func TestP12_4Asks(t *testing.T) {
	for start := range 256 {
		size := byte(start * 11)
		s := sampled(0x0f, 0, byte(start), size)
		s.Put(0x4017, 0x40)
		at, n := 0xc000+64*start, 16*int(size)+1
		if start%8 > 0 { // the end of a long one takes long
			n = min(n, 5)
		}
		for i := range n {
			if asks(s) != at || s.Get() != 0x10 {
				t.Fatal(start, i, asks(s), at)
			}
			s.Give(0)
			if asks(s) != -1 {
				t.Fatal(start, i, asks(s), "with a byte")
			}
			for asks(s) < 0 && s.Get() == 0x10 {
				s.Clock()
			}
			if at++; at == 0x10000 {
				at = 0x8000
			}
		}
		if n == 16*int(size)+1 && (asks(s) != -1 || s.Get() != 0) {
			t.Error(start, asks(s), "beyond the end")
		}
	}
}

// TestP12_4Wrap: 8000 follows ffff.
func TestP12_4Wrap(t *testing.T) {
	s := sampled(0x0f, 0, 255, 255)
	s.Put(0x4017, 0x40)
	for i := range 16*255 + 1 {
		at := 0xffc0 + i
		if at > 0xffff {
			at -= 0x8000
		}
		if asks(s) != at {
			t.Fatal(i, asks(s), at)
		}
		s.Give(0)
		clocks(s, 8*54)
	}
	if asks(s) != -1 || s.Get() != 0 {
		t.Error(asks(s))
	}
}

// TestP12_4Taken: the buffer is free again in the cycle in which the eighth bit ends.
func TestP12_4Taken(t *testing.T) {
	s := sampled(0x0f, 0, 0, 9)
	s.Give(0)
	clocks(s, 7*54)
	if asks(s) != -1 {
		t.Error(asks(s))
	}
	if s.Clock(); asks(s) != 0xc001 {
		t.Error(asks(s))
	}
	s.Give(0)
	clocks(s, 8*54-1)
	if asks(s) != -1 {
		t.Error(asks(s))
	}
	if s.Clock(); asks(s) != 0xc002 {
		t.Error(asks(s))
	}
}

// TestP12_4GiveUnasked: a byte that is not asked for has no effect.
func TestP12_4GiveUnasked(t *testing.T) {
	s, other := sampled(0x8f, 64, 0, 1), sampled(0x8f, 64, 0, 1)
	for i := range 18 * 8 * 54 {
		if asks(s) >= 0 {
			s.Give(0x3c)
			other.Give(0x3c)
		}
		s.Give(0xff)
		if answers(s) != answers(other) {
			t.Fatal(i, answers(s), answers(other))
		}
		s.Clock()
		other.Clock()
	}
	s = sound.New()
	s.Give(0xff)
	put(s, 0x4010, 0x0f, 64, 0, 0)
	clocks(s, 3000)
	if heard(s) != 64 || asks(s) != -1 {
		t.Error(heard(s), asks(s))
	}
	s.Put(0x4015, 0x10)
	if asks(s) != 0xc000 {
		t.Error(asks(s))
	}
}

// TestP12_4End: at the last byte the sample restarts, or an interrupt is requested, or neither.
func TestP12_4End(t *testing.T) {
	for b := range 256 {
		s := sampled(byte(b), 0, 3, 0)
		put(s, 0x4012, 5, 1) // what a restart goes by
		if s.IRQ() {
			t.Errorf("%02x: too early", b)
		}
		s.Give(0)
		repeats := b&0x40 != 0
		if irq := b&0xc0 == 0x80; s.IRQ() != irq || s.Get() != byte(number(irq)*0x80|number(repeats)*0x10) {
			t.Errorf("%02x: %t %02x", b, s.IRQ(), s.Get())
		}
		clocks(s, 8*428)
		if !repeats {
			if asks(s) != -1 {
				t.Errorf("%02x: %04x", b, asks(s))
			}
			continue
		}
		for i := range 17 {
			if asks(s) != 0xc140+i {
				t.Errorf("%02x, %d: %04x", b, i, asks(s))
			}
			s.Give(0)
			clocks(s, 8*428)
		}
		if asks(s) != 0xc140 || s.IRQ() && b&0xc0 == 0x80 {
			t.Errorf("%02x: %04x, again", b, asks(s))
		}
	}
}

// TestP12_4EndLater: register 0 counts as it is at the last byte.
func TestP12_4EndLater(t *testing.T) {
	s := sampled(0xcf, 0, 3, 0)
	s.Put(0x4010, 0x8f)
	if s.IRQ() {
		t.Error("before the end")
	}
	s.Give(0)
	if !s.IRQ() {
		t.Error("none")
	}
	s.Put(0x4010, 0xcf) // too late for a restart
	clocks(s, 1000)
	if !s.IRQ() || asks(s) != -1 {
		t.Error(s.IRQ(), asks(s))
	}
}

// TestP12_4Clear: which writes clear the request of the channel.
func TestP12_4Clear(t *testing.T) {
	for at := uint16(0x4000); at < 0x4018; at++ {
		for b := range 256 {
			s := sampled(0x8f, 0, 3, 0)
			s.Give(0)
			s.Get()
			s.Put(at, byte(b))
			want := !(at == 0x4010 && b < 0x80 || at == 0x4015)
			if s.IRQ() != want {
				t.Errorf("%04x %02x: %t", at, b, s.IRQ())
			}
			if c := s.Copy(); c.Get()&0x80 != byte(number(want)*0x80) || c.IRQ() != want {
				t.Errorf("%04x %02x: status %02x", at, b, c.Get())
			}
		}
	}
	s := sampled(0x8f, 0, 3, 0)
	s.Give(0)
	clocks(s, 29829)
	s.Put(0x4010, 0)
	if !s.IRQ() || s.Get() != 0x40 {
		t.Error("the frame counter's request is another")
	}
}

// TestP12_4Start: the start of a sample that still runs has no effect, and its end none on the byte that is buffered.
func TestP12_4Start(t *testing.T) {
	s := sampled(0x0f, 64, 1, 2)
	s.Give(0)
	clocks(s, 8*54)
	put(s, 0x4012, 9, 9)
	s.Put(0x4015, 0xff)
	if asks(s) != 0xc041 {
		t.Errorf("%04x", asks(s))
	}
	s.Give(0xff)
	s.Put(0x4015, 0xef)
	if asks(s) != -1 || s.Get() != 0 {
		t.Errorf("%04x %02x", asks(s), s.Get())
	}
	clocks(s, 1000)
	if heard(s) != 64 {
		t.Error(heard(s))
	}
	clocks(s, 1000)
	if asks(s) != -1 || heard(s) != 64 {
		t.Errorf("%04x %d", asks(s), heard(s))
	}
	s.Put(0x4015, 0x10)
	if asks(s) != 0xc240 || s.Get() != 0x10 {
		t.Errorf("%04x", asks(s))
	}
	s.Give(0)
	s.Put(0x4015, 0) // and started anew, while a byte is buffered
	s.Put(0x4015, 0x10)
	if asks(s) != -1 || s.Get() != 0x10 {
		t.Errorf("%04x", asks(s))
	}
	clocks(s, 8*54)
	if asks(s) != 0xc240 {
		t.Errorf("%04x", asks(s))
	}
	for i := range 16*9 + 1 {
		if asks(s) != 0xc240+i {
			t.Fatalf("%d %04x", i, asks(s))
		}
		s.Give(0)
		clocks(s, 8*54)
	}
	if asks(s) != -1 || s.Get() != 0x40 {
		t.Errorf("%04x %02x", asks(s), s.Get())
	}
}

// TestP12_4Unstarted: the registers alone start nothing.
func TestP12_4Unstarted(t *testing.T) {
	for b := range 256 {
		s := sound.New()
		s.Put(0x4015, byte(b)&0xef)
		put(s, 0x4010, 0xff, 0, byte(b), byte(b))
		clocks(s, 1000)
		if asks(s) != -1 || s.Get() != 0 {
			t.Errorf("%02x: %04x", b, asks(s))
		}
	}
}
