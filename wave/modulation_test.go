package wave_test

import (
	"testing"

	"kotatsu/wave"
)

// counter returns the modulation counter, by how fast a copy goes that is modulated by it alone.
func counter(w *wave.Wave) int {
	w = w.Copy()
	w.Put(0x4089, 0x80)
	for i := range 64 {
		w.Put(uint16(0x4040+i), byte(i))
	}
	w.Put(0x4089, 0)
	w.Put(0x4087, 0x80)
	w.Put(0x4084, 0xa0) // each of the counter's steps adds a 32nd of the pitch
	w.Put(0x4082, 0)
	w.Put(0x4083, 0x88)
	w.Put(0x4083, 0x08)
	clocks(w, 512*16)
	half := position(w)
	clocks(w, 512*16)
	n := 2*half + position(w)%2 - 32
	if n > 63 {
		n -= 128
	}
	return n
}

// modulated returns a channel with these numbers in the modulation table, whose accumulator and position are 0, and that has been stopped.
func modulated(numbers ...byte) *wave.Wave {
	w := numbered()
	w.Put(0x4087, 0x80)
	for _, b := range numbers {
		w.Put(0x4088, b)
	}
	for range 32 - len(numbers) {
		w.Put(0x4088, 0)
	}
	return w
}

// pass lets the modulation position advance n times, from an accumulator of 0 to one of 0.
func pass(w *wave.Wave, n int) {
	w.Put(0x4086, 0)
	w.Put(0x4087, 0x08)
	clocks(w, 16*32*n)
	w.Put(0x4087, 0x80)
}

func TestP13_1Counter(t *testing.T) {
	for b := range 256 {
		w := wave.New()
		w.Put(0x4085, 0x15)
		w.Put(0x4085, byte(b))
		want := b % 128
		if want >= 64 {
			want -= 128
		}
		if n := counter(w); n != want {
			t.Errorf("%02x: %d, want %d", b, n, want)
		}
	}
}

// TestP13_2Changes: what each number of the table does to each counter, twice.
func TestP13_2Changes(t *testing.T) {
	changes := []int{0, 1, 2, 4, 0, -4, -2, -1}
	for b := range 8 {
		w := modulated(byte(b))
		for c := -64; c < 64; c++ {
			w := w.Copy()
			w.Put(0x4085, byte(c))
			want := c
			for i := range 2 {
				pass(w, 1)
				want = (want+changes[b]+64+128)%128 - 64
				if b == 4 {
					want = 0
				}
				if n := counter(w); n != want {
					t.Fatal(b, c, i, n, want)
				}
			}
		}
	}
}

// TestP13_1Entry: all of the table is entered in pairs, by the lowest three bits.
func TestP13_1Entry(t *testing.T) {
	for first := range 8 {
		var l []byte
		for i := range 32 {
			l = append(l, byte(i*i*3+first*7+i/5))
		}
		w := modulated(l...)
		want := 0
		for i := range 2 * 64 {
			pass(w, 1)
			switch l[i/2%32] % 8 {
			case 1, 2:
				want += int(l[i/2%32] % 8)
			case 3:
				want += 4
			case 4:
				want = 0
			case 5:
				want -= 4
			case 6:
				want -= 2
			case 7:
				want--
			}
			want = (want+64+128)%128 - 64
			if n := counter(w); n != want {
				t.Fatal(first, i, n, want)
			}
		}
	}
}

// TestP13_1EntryOdd: a pair is entered at any position, also at the last one and the first.
func TestP13_1EntryOdd(t *testing.T) {
	for at := range 64 {
		w := modulated()
		pass(w, at)
		w.Put(0x4088, 2)
		w.Put(0x4085, 0)
		for i := range 64 { // from the position behind the pair
			if want := max(i-62, 0) * 2; counter(w) != want {
				t.Fatal(at, i, counter(w), want)
			}
			pass(w, 1)
		}
		if counter(w) != 4 {
			t.Error(at, counter(w))
		}
	}
}

// TestP13_1EntryBarred: without bit 80 of 4087, a write to 4088 enters nothing, and the position stays.
func TestP13_1EntryBarred(t *testing.T) {
	for b := range 256 {
		w := modulated(1, 5)
		w.Put(0x4087, byte(b))
		w.Put(0x4088, 3)
		w.Put(0x4087, 0x80)
		pass(w, 2)
		want := 2
		if b >= 0x80 {
			want = -8
		}
		if n := counter(w); n != want {
			t.Errorf("%02x: %d, want %d", b, n, want)
		}
	}
}

// TestP13_1Accumulator: 4087 sets the accumulator to 0 if b has bit 80, and leaves the position.
func TestP13_1Accumulator(t *testing.T) {
	for b := range 256 {
		w := modulated(1, 2, 3)
		pass(w, 3)
		w.Put(0x4087, 0x08)
		clocks(w, 16*31)
		w.Put(0x4087, byte(b))
		w.Put(0x4087, 0x08)
		until := 1
		if b >= 0x80 {
			until = 32
		}
		clocks(w, 16*until-1)
		if n := counter(w); n != 4 {
			t.Errorf("%02x: %d", b, n)
		}
		w.Clock()
		if n := counter(w); n != 6 {
			t.Errorf("%02x: %d, with a step", b, n)
		}
	}
}

// TestP13_1Zero: an accumulator that was set to 0 is at 65535 after 17 ticks, and steps with the next.
func TestP13_1Zero(t *testing.T) {
	const pitch = 65535 / 17
	w := modulated(1, 1)
	w.Put(0x4086, 0xff)
	w.Put(0x4087, 0x0f)
	w.Put(0x4082, 0xff)
	w.Put(0x4083, 0x0f)
	clocks(w, 16*10)
	w.Put(0x4087, 0x80)
	w.Put(0x4083, 0x80)
	w.Put(0x4086, pitch%256)
	w.Put(0x4087, pitch/256)
	w.Put(0x4082, pitch%256)
	w.Put(0x4083, pitch/256)
	clocks(w, 16*18-1)
	if counter(w) != 0 || position(w) != 0 {
		t.Error(counter(w), position(w))
	}
	if w.Clock(); counter(w) != 1 || position(w) != 1 {
		t.Error(counter(w), position(w))
	}
}

func TestP13_2ModulationPitch(t *testing.T) {
	for _, pitch := range []int{0, 1, 2, 255, 256, 257, 1000, 2048, 3333, 4095} {
		w := modulated(1, 1, 1, 1, 1, 1, 1, 1, 1, 1, 1, 1, 1, 1, 1, 1, 1, 1, 1, 1, 1, 1, 1, 1, 1, 1, 1, 1, 1, 1, 1, 1)
		w.Put(0x4086, byte(pitch))
		w.Put(0x4087, byte(pitch>>8)|0x70) // bits that do not count
		was := 0
		for i := range 70000 {
			steps := i / 16 * pitch / 65536
			if steps != was || i%5000 == 0 {
				if n := counter(w); n != (steps+64)%128-64 {
					t.Fatal(pitch, i, n, steps)
				}
			}
			was = steps
			w.Clock()
		}
	}
}

// TestP13_2ModulationStopped: bit 80 of 4087 stops the modulation, but nothing else does.
func TestP13_2ModulationStopped(t *testing.T) {
	for b := range 256 {
		w := modulated(1, 1, 1, 1)
		w.Put(0x4086, 0)
		w.Put(0x4087, byte(b)&0x80|0x08)
		w.Put(0x4083, byte(b)<<1)
		clocks(w, 16*32*3)
		want := 3
		if b >= 0x80 {
			want = 0
		}
		if n := counter(w); n != want {
			t.Errorf("%02x: %d, want %d", b, n, want)
		}
	}
}

// TestP13_2ModulationFirst: in a tick, the wave table goes by the counter as the modulation has left it.
func TestP13_2ModulationFirst(t *testing.T) {
	w := modulated(4)
	w.Put(0x4084, 0xa0)
	w.Put(0x4085, 0x60) // -32: by the gain of 32 the pitch is 0
	w.Put(0x4082, 0)
	w.Put(0x4083, 0x08)
	w.Put(0x4086, 0)
	w.Put(0x4087, 0x08) // the counter becomes 0 in the tick 32
	clocks(w, 16*(31+32)-1)
	if position(w) != 0 {
		t.Error(position(w), counter(w))
	}
	if w.Clock(); position(w) != 1 {
		t.Error(position(w), counter(w))
	}
}

// TestP13_2EnvelopeFirst: in a tick, the wave table goes by the modulation's gain as the envelope has left it.
func TestP13_2EnvelopeFirst(t *testing.T) {
	w := modulated()
	w.Put(0x4085, 0x40) // -64: by a gain of 16 the pitch is 0, and by one of 15 it is 128
	w.Put(0x4084, 0x90)
	w.Put(0x4082, 0)
	w.Put(0x4083, 0x08)
	clocks(w, 8)
	w.Put(0x4084, 0) // the gain falls in the tick
	clocks(w, 8)
	w.Put(0x4084, 0x80|15)
	clocks(w, 16*511-1)
	if position(w) != 0 {
		t.Error(position(w))
	}
	if w.Clock(); position(w) != 1 {
		t.Error(position(w))
	}
}
