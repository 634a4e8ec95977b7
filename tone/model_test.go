package tone_test

import (
	"math/rand"
	"testing"

	"kotatsu/tone"
)

// model is a second channel: it keeps what was written, and works the rest out when it is asked.
type model struct {
	kind    byte
	reg     [4]int
	on      bool
	period  int
	rest    int // of the timer
	length  int
	steps   int   // made since the first
	noise   []int // all bits of the shift register so far, from the lowest
	level   int
	divider int
	again   bool // the envelope, or the linear counter
	linear  int
	sweep   int // the sweep divider
	written bool
}

func newModel(kind byte) *model {
	return &model{kind: kind, noise: []int{1, 0, 0, 0, 0, 0, 0, 0, 0, 0, 0, 0, 0, 0, 0}}
}

func (m *model) has(reg, bits int) bool { return m.reg[reg]&bits != 0 }

func (m *model) pulse() bool { return m.kind < tone.Triangle }

func (m *model) put(reg, b byte) {
	if reg > 3 {
		return
	}
	m.reg[reg] = int(b)
	switch reg {
	case 1:
		m.written = true
	case 2:
		m.period = m.period/256*256 + int(b)
	case 3:
		m.period = m.period%256 + int(b)%8*256
		m.again = true
		if m.on {
			m.length = lengths[b>>3]
		}
		if m.pulse() {
			m.steps = 0
		}
	}
}

func (m *model) enable(on bool) {
	m.on = on
	if !on {
		m.length = 0
	}
}

func (m *model) clock() {
	if m.rest--; m.rest >= 0 {
		return
	}
	m.rest = m.period
	switch m.kind {
	case tone.Noise:
		m.rest = []int{4, 8, 16, 32, 64, 96, 128, 160, 202, 254, 380, 508, 762, 1016, 2034, 4068}[m.reg[2]%16] - 1
		other := 1
		if m.has(2, 0x80) {
			other = 6
		}
		m.noise = append(m.noise[1:], (m.noise[0]+m.noise[other])%2)
	case tone.Triangle:
		if m.length == 0 || m.linear == 0 {
			return
		}
	}
	m.steps++
}

func (m *model) quarter() {
	if m.kind == tone.Triangle {
		m.linear = max(m.linear-1, 0)
		if m.again {
			m.linear = m.reg[0] % 128
		}
		m.again = m.again && m.has(0, 0x80)
		return
	}
	m.divider--
	if m.again {
		m.again, m.level, m.divider = false, 15, m.reg[0]%16
	} else if m.divider < 0 {
		m.divider = m.reg[0] % 16
		m.level--
		if m.level < 0 && m.has(0, 0x20) {
			m.level = 15
		}
		m.level = max(m.level, 0)
	}
}

func (m *model) half() {
	stop := 0x20
	if m.kind == tone.Triangle {
		stop = 0x80
	}
	if !m.has(0, stop) {
		m.length = max(m.length-1, 0)
	}
	if !m.pulse() {
		return
	}
	if m.sweep == 0 && m.has(1, 0x80) && m.has(1, 7) && !muted(m.kind, m.reg[1], m.period) {
		m.period = target(m.kind, m.reg[1], m.period)
	}
	m.sweep--
	if m.sweep < 0 || m.written {
		m.sweep = m.reg[1] / 16 % 8
	}
	m.written = false
}

func (m *model) out() byte {
	volume := m.level
	if m.has(0, 0x10) {
		volume = m.reg[0] % 16
	}
	silent := m.length == 0
	switch m.kind {
	case tone.Triangle:
		return falling(m.steps)
	case tone.Noise:
		silent = silent || m.noise[0] == 1
	default:
		silent = silent || cycles[m.reg[0]/64][m.steps%8] == '0' || muted(m.kind, m.reg[1], m.period)
	}
	if silent {
		return 0
	}
	return byte(volume)
}

// pair is a channel and its model, for which everything is done twice.
type pair struct {
	v *tone.Tone
	m *model
}

func (p *pair) put(reg, b byte) {
	p.v.Put(reg, b)
	p.m.put(reg, b)
}

// write writes something that often lets the channel be heard.
func (p *pair) write(r *rand.Rand) {
	b := byte(r.Intn(256))
	switch reg := byte(r.Intn(6)); {
	case reg > 3:
		p.put(byte(r.Intn(256)), b)
	case reg == 3 && r.Intn(2) == 0:
		p.put(3, b&0xf9)
	case reg == 1 && r.Intn(2) == 0:
		p.put(1, b|0x80)
	case reg == 2 && p.m.kind == tone.Noise && r.Intn(2) == 0:
		p.put(2, b&0x83)
	default:
		p.put(reg, b)
	}
}

func (p *pair) step(r *rand.Rand) {
	switch r.Intn(16) {
	case 0:
		p.write(r)
	case 1:
		p.v.Quarter()
		p.m.quarter()
	case 2:
		p.v.Half()
		p.m.half()
	case 3:
		if on := r.Intn(8) > 0; on || r.Intn(4) == 0 {
			p.v.Enable(on)
			p.m.enable(on)
		}
	case 4:
		for range r.Intn(2000) {
			p.v.Clock()
			p.m.clock()
		}
	case 5:
		if r.Intn(50) == 0 {
			p.v = p.v.Copy()
		}
	default:
		p.v.Clock()
		p.m.clock()
	}
}

// TestP11Model: long lives of all kinds, in which everything is done at any time.
func TestP11Model(t *testing.T) {
	for _, kind := range kinds {
		heard := map[byte]int{}
		for seed := range int64(40) {
			r := rand.New(rand.NewSource(seed))
			p := &pair{tone.New(kind), newModel(kind)}
			for n := range 3000 {
				p.step(r)
				if p.v.Out() != p.m.out() || p.v.Live() != (p.m.length > 0) {
					t.Fatalf("kind %d, seed %d, step %d: %d %t, want %d %d", kind, seed, n, p.v.Out(), p.v.Live(), p.m.out(), p.m.length)
				}
				heard[p.v.Out()]++
			}
		}
		for b := range byte(16) {
			if heard[b] < 50 {
				t.Error(kind, b, "is heard too seldom to tell anything:", heard[b])
			}
		}
	}
}
