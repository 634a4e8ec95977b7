package wave_test

import (
	"math/rand"
	"testing"

	"kotatsu/wave"
)

// model is a wave channel in another form: its registers, and what has been added up since its beginning.
type model struct {
	reg    [11]int
	table  [64]int
	held   int
	cycles int

	gain, count, speed [2]int // of the volume and of the modulation
	sum, steps         int    // of the wave table
	added              int    // to the modulation's accumulator
	place              int    // in the modulation table, without end
	entries            map[int]int
	counter            int
}

func newModel() *model {
	return &model{entries: map[int]int{}}
}

func (m *model) put(at uint16, b byte) {
	n, r := int(b), int(at)-0x4080
	if r < 0 && r >= -64 && m.reg[9] > 127 {
		m.table[r+64] = n % 64
	}
	if r < 0 || r > 10 {
		return
	}
	high := n > 127
	switch {
	case r == 0 || r == 4:
		m.speed[r/4], m.count[r/4] = n%64, 0
		if high {
			m.gain[r/4] = n % 64
		}
	case r == 3 && high:
		m.sum, m.steps = 0, 0
	case r == 5:
		m.counter = (n%128+64)%128 - 64
	case r == 7 && high:
		m.added = 0
	case r == 8 && m.reg[7] > 127:
		m.entries[m.place%64] = n % 8
		m.entries[(m.place+1)%64] = n % 8
		m.place += 2
	case r == 9 && high && m.reg[9] < 128:
		m.held = m.out()
	}
	m.reg[r] = n
}

func (m *model) clock() {
	m.cycles++
	for i := range 2 {
		m.fade(i, m.reg[4*i])
	}
	if m.cycles%16 != 0 {
		return
	}
	if m.reg[7] < 128 {
		m.added += m.reg[7]%16*256 + m.reg[6]
		if m.added > 65535 {
			m.added %= 65536
			m.turn([]int{0, 1, 2, 4, -m.counter, -4, -2, -1}[m.entries[m.place%64]])
			m.place++
		}
	}
	if m.reg[3] < 128 {
		m.sum += pitched(m.reg[3]%16*256+m.reg[2], m.counter, m.gain[1])
		m.steps += m.sum / 65536
		m.sum %= 65536
	}
}

func (m *model) turn(by int) {
	m.counter = (m.counter+by+192)%128 - 64
}

func (m *model) fade(i, reg int) {
	if reg > 127 || m.reg[3] > 63 {
		return
	}
	m.count[i]++
	if m.count[i]/8 < (m.speed[i]+1)*(m.reg[10]+1) {
		return
	}
	m.count[i] = 0
	switch {
	case reg > 63 && m.gain[i] < 32:
		m.gain[i]++
	case reg < 64:
		m.gain[i] = max(m.gain[i]-1, 0)
	}
}

func (m *model) out() int {
	if m.reg[9] > 127 {
		return m.held
	}
	return m.table[m.steps%64] * min(m.gain[0], 32) * []int{30, 20, 15, 12}[m.reg[9]%4]
}

// write writes something that often lets the channel be heard.
func write(w *wave.Wave, m *model, r *rand.Rand) {
	at, b := uint16(0x4080+r.Intn(11)), byte(r.Intn(256))
	switch r.Intn(6) {
	case 0:
		at = uint16(0x4040 + r.Intn(64))
	case 1:
		at = uint16(0x4030 + r.Intn(0x70))
	case 2:
		if at != 0x4087 && at != 0x4080 {
			b &= 0x3f
		}
	case 3:
		if at == 0x408a {
			b &= 3
		}
	}
	w.Put(at, b)
	m.put(at, b)
}

// TestP13Model: long lives in which everything is done at any time.
func TestP13Model(t *testing.T) {
	heard := map[int]bool{}
	for seed := range int64(80) {
		r := rand.New(rand.NewSource(seed))
		w, m := wave.New(), newModel()
		often := 1 + r.Intn(1500)
		for n := range 60000 {
			if r.Intn(often) == 0 {
				for range 1 + r.Intn(40) {
					write(w, m, r)
				}
			}
			if r.Intn(9000) == 0 {
				w = w.Copy()
			}
			w.Clock()
			m.clock()
			if w.Out() != m.out() || gain(w, 0x4090) != m.gain[0] || gain(w, 0x4092) != m.gain[1] {
				t.Fatalf("seed %d, step %d: %d %d %d, want %d %d", seed, n, w.Out(), gain(w, 0x4090), gain(w, 0x4092), m.out(), m.gain)
			}
			at := 0x4040 + uint16(n%64)
			if gain(w, at) != m.table[n%64] {
				t.Fatalf("seed %d, step %d: %d at %04x, want %d", seed, n, gain(w, at), at, m.table[n%64])
			}
			heard[w.Out()] = true
		}
	}
	if len(heard) < 1000 {
		t.Error("too little is heard to tell anything:", len(heard))
	}
}
