package sound_test

import (
	"math/rand"
	"testing"

	"kotatsu/sound"
	"kotatsu/tone"
)

// nothing is a bit that leaves the level as it is.
const nothing = 2

// model is a sound unit in another form: the frame is a list of places, and the sample a row of bits.
type model struct {
	tones [4]*tone.Tone
	cycle int
	frame int     // cycles since the frame began
	mode  byte    // what was written last
	irqs  [2]bool // of the frame and of the sample

	reg    [4]int
	level  int
	wait   int
	row    []int // the bits that are played now
	next   []int // and those that are buffered
	at     int
	remain int
}

func newModel() *model {
	m := &model{row: []int{nothing, nothing, nothing, nothing, nothing, nothing, nothing, nothing}}
	for kind := range m.tones {
		m.tones[kind] = tone.New(byte(kind))
	}
	return m
}

func (m *model) put(at uint16, b byte) {
	switch {
	case at>>4 == 0x400:
		m.tones[at>>2&3].Put(byte(at&3), b)
	case at == 0x4011:
		m.level = int(b) % 128
	case at == 0x4010:
		m.reg[0] = int(b)
		m.irqs[1] = m.irqs[1] && b >= 0x80
	case at>>2 == 0x1004:
		m.reg[at&3] = int(b)
	case at == 0x4015:
		for kind, v := range m.tones {
			v.Enable(b>>kind%2 == 1)
		}
		m.irqs[1] = false
		if b>>4%2 == 0 {
			m.remain = 0
		} else if m.remain == 0 {
			m.start()
		}
	case at == 0x4017:
		m.mode = b
		m.frame = 0
		m.irqs[0] = m.irqs[0] && b>>6%2 == 0
		if b >= 0x80 {
			m.beat(true)
		}
	}
}

func (m *model) start() {
	m.at = 0xc000 + m.reg[2]*64
	m.remain = m.reg[3]*16 + 1
}

func (m *model) beat(half bool) {
	for _, v := range m.tones {
		v.Quarter()
	}
	for _, v := range m.tones {
		if half {
			v.Half()
		}
	}
}

func (m *model) clock() {
	m.cycle++
	m.frame++
	mode := int(m.mode >> 7)
	for i, at := range quarters[mode] {
		if at == m.frame {
			m.beat(i%2 == 1)
		}
	}
	if m.mode>>6 == 0 && m.frame == 29829 {
		m.irqs[0] = true
	}
	m.frame %= frames[mode]
	for kind, v := range m.tones {
		if kind > 1 || m.cycle%2 == 0 {
			v.Clock()
		}
	}
	m.sample()
}

func (m *model) sample() {
	m.wait--
	if m.wait >= 0 {
		return
	}
	m.wait = rates[m.reg[0]%16] - 1
	switch b := m.row[0]; {
	case b == 0 && m.level > 1:
		m.level -= 2
	case b == 1 && m.level < 126:
		m.level += 2
	}
	m.row = m.row[1:]
	if len(m.row) > 0 {
		return
	}
	m.row, m.next = m.next, nil
	for len(m.row) < 8 {
		m.row = append(m.row, nothing)
	}
}

func (m *model) asks() (uint16, bool) {
	if len(m.next) > 0 || m.remain == 0 {
		return 0, false
	}
	return uint16(m.at), true
}

func (m *model) give(b byte) {
	if _, ok := m.asks(); !ok {
		return
	}
	for i := range 8 {
		m.next = append(m.next, int(b>>i)%2)
	}
	m.at++
	if m.at == 0x10000 {
		m.at = 0x8000
	}
	m.remain--
	switch {
	case m.remain > 0:
	case m.reg[0]/64%2 == 1:
		m.start()
	case m.reg[0]/128 == 1:
		m.irqs[1] = true
	}
}

func (m *model) out() int {
	n := m.level * 335
	for kind, v := range m.tones {
		n += weights[kind] * int(v.Out())
	}
	return n
}

func (m *model) get() byte {
	n := 0
	for kind, v := range m.tones {
		n += number(v.Live()) << kind
	}
	n += number(m.remain > 0)*0x10 + number(m.irqs[0])*0x40 + number(m.irqs[1])*0x80
	m.irqs[0] = false
	return byte(n)
}

// write writes something that often lets the channels be heard.
func write(s *sound.Sound, m *model, r *rand.Rand) {
	at, b := uint16(0x4000+r.Intn(0x18)), byte(r.Intn(256))
	switch {
	case at == 0x4013 && r.Intn(2) == 0:
		b &= 3
	case at == 0x4015 && r.Intn(3) > 0:
		b |= 0x1f
	case at == 0x4017 && r.Intn(3) > 0 || r.Intn(300) == 0:
		at = uint16(r.Intn(0x10000))
	case at == 0x4001 || at == 0x4005:
		b |= 8
	case at == 0x4010 && r.Intn(2) == 0:
		b |= 0x0c
	}
	s.Put(at, b)
	m.put(at, b)
}

// TestP12Model: long lives in which everything is done at any time.
func TestP12Model(t *testing.T) {
	for seed := range int64(60) {
		r := rand.New(rand.NewSource(seed))
		s, m := sound.New(), newModel()
		often := 1 + r.Intn(2000)
		for n := range 100000 {
			if r.Intn(often) == 0 {
				write(s, m, r)
			}
			if r.Intn(40) == 0 {
				b := byte(r.Intn(256))
				s.Give(b)
				m.give(b)
			}
			if r.Intn(5000) == 0 {
				if x, y := s.Get(), m.get(); x != y {
					t.Fatalf("seed %d, step %d: status %02x, want %02x", seed, n, x, y)
				}
			}
			if r.Intn(9000) == 0 {
				s = s.Copy()
			}
			s.Clock()
			m.clock()
			at, ok := s.Asks()
			want, wants := m.asks()
			if at != want || ok != wants {
				t.Fatalf("seed %d, step %d: asks %04x %t, want %04x %t", seed, n, at, ok, want, wants)
			}
			if s.Out() != m.out() || s.IRQ() != (m.irqs[0] || m.irqs[1]) {
				t.Fatalf("seed %d, step %d: %d %t, want %d %t", seed, n, s.Out(), s.IRQ(), m.out(), m.irqs)
			}
		}
	}
}
