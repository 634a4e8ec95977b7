package tone_test

import (
	"slices"
	"testing"

	"kotatsu/tone"
)

// loud returns a channel with an envelope whose Out is its volume.
func loud(kind, control byte) *tone.Tone {
	v := enabled(kind, control|0xc0, 0x08, 0, 0x0f)
	if kind == tone.Noise {
		v.Clock()
	}
	return v
}

// enveloped holds the kinds that have an envelope.
var enveloped = []byte{tone.One, tone.Two, tone.Noise}

// levels returns Out after each of n Quarters.
func levels(t *tone.Tone, n int) []byte {
	var l []byte
	for range n {
		t.Quarter()
		l = append(l, t.Out())
	}
	return l
}

func TestP11_3Steady(t *testing.T) {
	for _, kind := range enveloped {
		for n := range byte(16) {
			for _, more := range []byte{0x10, 0x30} {
				v := loud(kind, more|n)
				if v.Out() != n {
					t.Error(kind, n, v.Out())
				}
				for _, b := range levels(v, 100) {
					if b != n {
						t.Error(kind, n, b)
					}
				}
				v.Put(0, 0xd0|n^3)
				if v.Out() != n^3 {
					t.Error(kind, n, v.Out(), "another")
				}
			}
		}
	}
}

// TestP11_3Levels: the level begins at 15 and falls by one every n + 1 Quarters, to 0, or round and round.
func TestP11_3Levels(t *testing.T) {
	for _, kind := range enveloped {
		for n := range 16 {
			for _, loops := range []byte{0, 0x20} {
				v := loud(kind, loops|byte(n))
				if v.Out() != 0 {
					t.Error(kind, n, v.Out(), "before a Quarter")
				}
				for i, b := range levels(v, 600) {
					want := 15 - i/(n+1)
					if loops != 0 {
						want = (want%16 + 16) % 16
					}
					if int(b) != max(want, 0) {
						t.Fatal(kind, n, loops, i, b)
					}
				}
			}
		}
	}
}

// TestP11_3NewLevels: without a write to register 3 the level is 0, and the bit of the loop takes it up.
func TestP11_3NewLevels(t *testing.T) {
	for _, kind := range enveloped {
		a, b := tone.New(kind), tone.New(kind)
		for _, v := range []*tone.Tone{a, b} {
			v.Enable(true)
			v.Put(1, 0x08)
			v.Put(2, 0)
			v.Put(0, 0xc0)
			v.Clock()
		}
		b.Put(0, 0xe0)
		times(3, a.Quarter)
		times(3, b.Quarter)
		for _, v := range []*tone.Tone{a, b} {
			v.Put(0, 0xc0)
			v.Put(3, 0x0f)
		}
		if a.Out() != 0 || b.Out() != 13 {
			t.Error(kind, a.Out(), b.Out())
		}
	}
}

// TestP11_3Restart: the restart waits for a Quarter, and sets level and divider.
func TestP11_3Restart(t *testing.T) {
	for _, kind := range enveloped {
		v := loud(kind, 2)
		want := []byte{15, 15, 15, 14, 14, 14, 13, 13}
		if l := levels(v, 8); !slices.Equal(l, want) {
			t.Error(kind, l)
		}
		v.Put(3, 0x0f)
		v.Half()
		v.Clock()
		v.Put(3, 0x0f)
		if kind != tone.Noise && v.Out() != 13 {
			t.Error(kind, v.Out(), "at once")
		}
		if l := levels(v, 8); !slices.Equal(l, want) {
			t.Error(kind, l, "again")
		}
		for reg := range 256 {
			if reg != 3 {
				v.Put(byte(reg), 0xc2)
			}
		}
		put(v, 0xc2, 0x08)
		if l := levels(v, 4); !slices.Equal(l, []byte{13, 12, 12, 12}) {
			t.Error(kind, l, "other registers")
		}
	}
}

// TestP11_3Disabled: a write to register 3 restarts the envelope also while the channel is disabled.
func TestP11_3Disabled(t *testing.T) {
	for _, kind := range enveloped {
		v := tone.New(kind)
		put(v, 0xc0, 0x08, 0xff, 0x0f)
		times(3, v.Quarter)
		v.Enable(true)
		v.Put(3, 0x0f)
		if kind == tone.Noise {
			v.Clock()
		}
		if v.Out() != 13 {
			t.Error(kind, v.Out())
		}
	}
}

// TestP11_3Register0: register 0 counts as it is at the Quarter.
func TestP11_3Register0(t *testing.T) {
	for _, kind := range enveloped {
		v := loud(kind, 4)
		v.Put(0, 0xc1)
		if l := levels(v, 4); !slices.Equal(l, []byte{15, 15, 14, 14}) {
			t.Error(kind, l)
		}
		v.Put(0, 0xc3)
		if l := levels(v, 6); !slices.Equal(l, []byte{13, 13, 13, 13, 12, 12}) {
			t.Error(kind, l)
		}
		v.Put(0, 0xc0) // the divider goes on from 2
		if l := levels(v, 5); !slices.Equal(l, []byte{12, 12, 11, 10, 9}) {
			t.Error(kind, l)
		}
		v.Put(0, 0xd0) // the envelope goes on unheard
		if l := levels(v, 4); !slices.Equal(l, []byte{0, 0, 0, 0}) {
			t.Error(kind, l)
		}
		v.Put(0, 0xc0)
		if v.Out() != 5 {
			t.Error(kind, v.Out())
		}
		times(9, v.Quarter)
		v.Put(0, 0xe0)
		if l := levels(v, 3); !slices.Equal(l, []byte{15, 14, 13}) {
			t.Error(kind, l)
		}
		v.Put(0, 0xff) // a restart, too, goes by register 0 whatever its bits
		v.Put(3, 0x0f)
		v.Quarter()
		v.Put(0, 0xc0)
		if l := levels(v, 17); !slices.Equal(l[13:], []byte{15, 15, 14, 13}) {
			t.Error(kind, l)
		}
	}
}

// TestP11_3Others: Clock and Half leave the envelope as it is.
func TestP11_3Others(t *testing.T) {
	for _, kind := range enveloped {
		round := 8 * 0x701 // Clocks after which the channel is where it was
		if kind == tone.Noise {
			round = 4 * 32767
		}
		v := loud(kind, 1)
		times(4, v.Quarter)
		times(9, v.Half)
		times(round, v.Clock)
		v.Enable(true)
		if l := levels(v, 4); !slices.Equal(l, []byte{13, 13, 12, 12}) {
			t.Error(kind, l)
		}
	}
}
