package wave_test

import (
	"testing"

	"kotatsu/wave"
)

// weights is the document's list.
var weights = []int{30, 20, 15, 12}

func clocks(w *wave.Wave, n int) {
	for range n {
		w.Clock()
	}
}

// tabled returns a channel with a table of these numbers and then zeros, and the greatest gain that counts.
func tabled(numbers ...byte) *wave.Wave {
	w := wave.New()
	w.Put(0x4089, 0x80)
	for i, b := range numbers {
		w.Put(uint16(0x4040+i), b)
	}
	w.Put(0x4089, 0)
	w.Put(0x4080, 0xa0)
	return w
}

// numbered returns a channel whose table tells the position.
func numbered() *wave.Wave {
	l := make([]byte, 64)
	for i := range l {
		l[i] = byte(i)
	}
	return tabled(l...)
}

// position returns the position of a channel that is numbered and not held.
func position(w *wave.Wave) int {
	w = w.Copy()
	w.Put(0x4089, 0)
	w.Put(0x4080, 0xa0)
	return w.Out() / (32 * 30)
}

// gain returns the gain that is read at an address.
func gain(w *wave.Wave, at uint16) int {
	b, _ := w.Get(at)
	return int(b) - 0x40
}

// answers returns all that can be read.
func answers(w *wave.Wave) [67]int {
	var l [67]int
	for i := range 64 {
		b, _ := w.Get(uint16(0x4040 + i))
		l[i] = int(b)
	}
	l[64], l[65], l[66] = gain(w, 0x4090), gain(w, 0x4092), w.Out()
	return l
}

// alike holds two channels against each other for n cycles.
func alike(t *testing.T, what any, a, b *wave.Wave, n int) {
	t.Helper()
	for i := range n {
		if answers(a) != answers(b) {
			t.Fatal(what, i, answers(a), answers(b))
		}
		a.Clock()
		b.Clock()
	}
}

// busy returns a channel in which all goes on.
func busy() *wave.Wave {
	w := numbered()
	w.Put(0x4087, 0x80)
	for i := range 32 {
		w.Put(0x4088, byte(i*5))
	}
	for i, b := range []byte{0x43, 0x11, 0xd0, 0x0a, 0x85, 0x23, 0xe0, 0x0d} {
		w.Put(uint16(0x4080+i), b)
	}
	w.Put(0x4084, 0x41)
	w.Put(0x408a, 3)
	return w
}

func TestP13_1New(t *testing.T) {
	w := wave.New()
	for i := range 20000 {
		for at := 0x4040; at <= 0x4092; at++ {
			b, ok := w.Get(uint16(at))
			reads := at < 0x4080 || at == 0x4090 || at == 0x4092
			if ok != reads || b != 0x40 && ok || b != 0 && !ok {
				t.Fatal(i, at, b, ok)
			}
		}
		if w.Out() != 0 {
			t.Fatal(i, w.Out())
		}
		w.Clock()
	}
}

func TestP13_1Table(t *testing.T) {
	for at := range 64 {
		for b := range 256 {
			w := wave.New()
			w.Put(uint16(0x4040+at), byte(b))
			if w.Put(0x4089, 0x7f); gain(w, uint16(0x4040+at)) != 0 {
				t.Errorf("%d %02x is written without bit 80", at, b)
			}
			w.Put(uint16(0x4040+at), byte(b))
			w.Put(0x4089, 0x80)
			for i := range 64 {
				if gain(w, uint16(0x4040+i)) != 0 {
					t.Errorf("%d %02x is written without bit 80 or at bit 80 itself", at, b)
				}
			}
			w.Put(uint16(0x4040+at), byte(b))
			for i := range 64 {
				want := 0
				if i == at {
					want = b % 64
				}
				if n := gain(w, uint16(0x4040+i)); n != want {
					t.Fatalf("%d %02x: %d at %d, want %d", at, b, n, i, want)
				}
			}
			w.Put(uint16(0x4040+at), 0x3f-byte(b)%64)
			if n := gain(w, uint16(0x4040+at)); n != 63-b%64 {
				t.Errorf("%d %02x: %d, written again", at, b, n)
			}
			w.Put(0x4089, 0x7f)
			w.Put(uint16(0x4040+at), byte(b))
			if n := gain(w, uint16(0x4040+at)); n != 63-b%64 {
				t.Errorf("%d %02x: %d, written once too often", at, b, n)
			}
		}
	}
}

// TestP13_1Others: no other address has an effect.
func TestP13_1Others(t *testing.T) {
	for _, b := range []byte{0, 0x5a, 0xff} {
		w, other := busy(), busy()
		clocks(w, 1234)
		clocks(other, 1234)
		for at := range 0x10000 {
			if at >= 0x4080 && at != 0x4081 && at <= 0x408a {
				continue
			}
			w.Put(uint16(at), b)
		}
		alike(t, b, w, other, 20000)
	}
}

// TestP13_1Restart: 4083 sets accumulator and position of the wave table to 0 if b has bit 80.
func TestP13_1Restart(t *testing.T) {
	for b := range 256 {
		w := numbered()
		w.Put(0x4083, 0x08) // a step each 32 ticks
		clocks(w, 16*(32*5+31))
		w.Put(0x4083, byte(b))
		at, until := 5, 1
		if b >= 0x80 {
			at, until = 0, 32
		}
		if position(w) != at {
			t.Errorf("%02x: %d, want %d", b, position(w), at)
		}
		w.Put(0x4083, 0x08)
		clocks(w, 16*until-1)
		if position(w) != at {
			t.Errorf("%02x: %d, want %d, later", b, position(w), at)
		}
		if w.Clock(); position(w) != at+1 {
			t.Errorf("%02x: %d, want %d, with a step", b, position(w), at+1)
		}
	}
}

func TestP13_2Positions(t *testing.T) {
	for _, pitch := range []int{0, 1, 2, 15, 255, 256, 257, 1000, 2048, 3333, 4095} {
		w := numbered()
		w.Put(0x4082, byte(pitch))
		w.Put(0x4083, byte(pitch>>8)|0x30) // bits that do not count
		for i := range 200000 {
			if want := i / 16 * pitch / 65536 % 64; position(w) != want {
				t.Fatal(pitch, i, position(w), want)
			}
			w.Clock()
		}
	}
}

// TestP13_2Ticks: a tick comes every sixteenth cycle since the channel was made, whatever is written.
func TestP13_2Ticks(t *testing.T) {
	for before := range 40 {
		w := numbered()
		w.Put(0x4082, 0xff)
		w.Put(0x4083, 0x8f)
		clocks(w, before)
		w.Put(0x4087, 0x80)
		w.Put(0x4083, 0x0f)
		w.Put(0x4087, 0)
		n := 0
		for ; position(w) == 0; n++ {
			w.Clock()
		}
		if want := (before/16+17)*16 - before; n != want {
			t.Error(before, n, want)
		}
	}
}

// TestP13_2Stopped: with bit 80 of 4083 the position stays 0, and without it goes on.
func TestP13_2Stopped(t *testing.T) {
	w := numbered()
	w.Put(0x4082, 0xff)
	w.Put(0x4083, 0x8f)
	for i := range 100000 {
		if w.Clock(); position(w) != 0 {
			t.Fatal(i, position(w))
		}
	}
	w.Put(0x4083, 0x4f) // bit 40 does not stop it
	clocks(w, 16*17)
	if position(w) != 1 {
		t.Error(position(w))
	}
}

func TestP13_4Out(t *testing.T) {
	for number := range 64 {
		for g := range 64 {
			for b := range 128 {
				w := tabled(byte(number))
				w.Put(0x4080, 0x80|byte(g))
				w.Put(0x4089, byte(b))
				if want := number * min(g, 32) * weights[b%4]; w.Out() != want {
					t.Fatalf("%d %d %02x: %d, want %d", number, g, b, w.Out(), want)
				}
			}
		}
	}
}

// TestP13_4Hold: the output is held as it was before the write, till a write ends that.
func TestP13_4Hold(t *testing.T) {
	for before := range 128 {
		for b := 128; b < 256; b += 5 {
			w := numbered()
			w.Put(0x4083, 0x08)
			w.Put(0x4089, byte(before))
			clocks(w, 16*32*40)
			want := 40 * 32 * weights[before%4]
			if w.Out() != want {
				t.Fatal(before, w.Out(), want)
			}
			w.Put(0x4089, byte(b))
			for i := range 64 {
				w.Put(uint16(0x4040+i), 1)
			}
			w.Put(0x4080, 0x9f)
			clocks(w, 1000)
			if w.Out() != want {
				t.Fatal(before, b, w.Out(), want)
			}
			w.Put(0x4089, byte(b)^0x03) // held already
			w.Put(0x4083, 0x80)
			if w.Out() != want {
				t.Fatal(before, b, w.Out(), want)
			}
			w.Put(0x4089, byte(before))
			if now := 31 * weights[before%4]; w.Out() != now {
				t.Fatal(before, b, w.Out(), now)
			}
			w.Put(0x4089, 0x80) // held anew
			w.Put(0x4080, 0x80)
			if now := 31 * weights[before%4]; w.Out() != now {
				t.Fatal(before, b, w.Out(), now)
			}
		}
	}
}

func TestP13_4Get(t *testing.T) {
	for _, w := range []*wave.Wave{numbered(), busy()} {
		w.Put(0x4080, 0xbf)
		w.Put(0x4084, 0x95)
		w.Put(0x4089, 0x80)
		for at := range 0x10000 {
			b, ok := w.Get(uint16(at))
			var want byte
			switch {
			case at >= 0x4040 && at < 0x4080:
				want = byte(at)&0x3f | 0x40
			case at == 0x4090:
				want = 0x7f
			case at == 0x4092:
				want = 0x55
			}
			if b != want || ok != (want != 0) {
				t.Errorf("%04x: %02x %t", at, b, ok)
			}
		}
	}
}

// TestP13_4GetChanges: reading changes nothing.
func TestP13_4GetChanges(t *testing.T) {
	w, other := busy(), busy()
	for i := range 5000 {
		for at := 0x403f; at < 0x4094; at++ {
			w.Get(uint16(at))
		}
		w.Out()
		if w.Out() != other.Out() || gain(w, 0x4090) != gain(other, 0x4090) {
			t.Fatal(i, w.Out(), other.Out())
		}
		w.Clock()
		other.Clock()
	}
}

func TestP13_4Copy(t *testing.T) {
	for _, n := range []int{0, 1, 15, 1000, 12345} {
		w, other := busy(), busy()
		clocks(w, n)
		clocks(other, n)
		c := w.Copy()
		for i := range 3000 { // nothing that is done to the copy is seen in what was copied
			c.Put(0x4089, 0x80)
			c.Put(uint16(0x4040+i%0x4b), byte(i*7))
			c.Clock()
		}
		c = w.Copy()
		alike(t, n, w, other, 9000)
		again := busy()
		clocks(again, n)
		alike(t, n, c, again, 20000) // and nothing the other way round
	}
}

func TestP13_4Nil(t *testing.T) {
	var w *wave.Wave
	for at := range 0x10000 {
		w.Put(uint16(at), 0xff)
		if b, ok := w.Get(uint16(at)); b != 0 || ok {
			t.Error(at, b, ok)
		}
	}
	w.Clock()
	if w.Out() != 0 || w.Copy() != nil {
		t.Error(w.Out())
	}
}
