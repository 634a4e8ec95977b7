package drive_test

import (
	"bytes"
	"math/rand"
	"testing"

	"kotatsu/api"
	"kotatsu/drive"
)

// model is the document's drive as one number: the Clocks since the head first began to return.
type model struct {
	side             []byte
	motor, protected bool
	gone             int
	passed           int // the offset of the byte that passed, or -1
	last             []int
}

// round is how many Clocks go by until the head begins to return again.
func (m *model) round() int { return 4000 + 149*len(m.side) }

func (m *model) moves() bool { return m.motor && len(m.side) > 0 }

func (m *model) insert(side []byte) bool {
	if len(m.side) > 0 || len(side) < 1 || len(side) > 65536 {
		return false
	}
	m.side, m.gone = bytes.Clone(side), 0
	return true
}

func (m *model) eject() []byte {
	side := m.side
	m.side, m.passed = nil, -1
	return side
}

func (m *model) turn(on bool) {
	if on && !m.motor {
		m.gone = 0
	}
	m.motor = on
}

func (m *model) clock() bool {
	m.passed, m.last = -1, nil
	if !m.moves() {
		return false
	}
	m.gone++
	over := (m.gone-1)%m.round() + 1 - 4000
	if over > 0 && over%149 == 0 {
		m.passed = over/149 - 1
	}
	return m.passed >= 0
}

func (m *model) ready() bool { return m.moves() && m.gone%m.round() >= 4000 }

func (m *model) at() int {
	if !m.ready() {
		return 0
	}
	return (m.gone%m.round() - 4000) / 149
}

func (m *model) get() byte {
	if m.passed < 0 {
		return 0
	}
	return m.side[m.passed]
}

func (m *model) lay(b byte) bool {
	if m.passed < 0 || m.protected {
		return false
	}
	m.side[m.passed] = b
	m.last = []int{m.passed, int(b)}
	return true
}

// copied returns an independent copy of the model.
func (m *model) copied() *model {
	c := *m
	c.side = bytes.Clone(m.side)
	return &c
}

// same fails unless the drive answers as the model does.
func (m *model) same(t *testing.T, d *drive.Drive) {
	t.Helper()
	if d.Ready() != m.ready() || d.At() != m.at() || d.Get() != m.get() || d.Has() != (len(m.side) > 0) {
		t.Fatalf("after %d Clocks: %v %d %d %v", m.gone, d.Ready(), d.At(), d.Get(), d.Has())
	}
	at, b, ok := d.Last()
	if m.last == nil && (ok || at != 0 || b != 0) || m.last != nil && (!ok || at != m.last[0] || int(b) != m.last[1]) {
		t.Fatalf("Last is %d %d %v, want %v", at, b, ok, m.last)
	}
}

// sides returns a side to insert, of the lengths that are allowed or not.
func sides(r *rand.Rand) []byte {
	n := r.Intn(7)
	if r.Intn(30) == 0 {
		n = api.Quick + r.Intn(3)
	}
	side := make([]byte, n)
	r.Read(side)
	return side
}

// some returns a number of Clocks, often just to where a byte passes.
func (m *model) some(r *rand.Rand) int {
	switch r.Intn(4) {
	case 0:
		return r.Intn(3)
	case 1:
		return r.Intn(6000)
	}
	n := 1
	for c := m.copied(); !c.clock() && n < 4200; {
		n++
	}
	return n
}

// both lets the same happen to a drive and to the model.
func both(t *testing.T, r *rand.Rand, d *drive.Drive, m *model) {
	t.Helper()
	switch r.Intn(12) {
	case 0, 1:
		side := sides(r)
		if d.Insert(side) != m.insert(side) {
			t.Fatal("Insert of", len(side))
		}
	case 2:
		if r.Intn(2) == 0 && !bytes.Equal(d.Eject(), m.eject()) {
			t.Fatal("Eject")
		}
	case 3:
		on := r.Intn(4) > 0
		d.Motor(on)
		m.turn(on)
	case 4:
		on := r.Intn(3) == 0
		d.Protect(on)
		m.protected = on
	case 5, 6, 7:
		b := byte(r.Intn(256))
		if d.Lay(b) != m.lay(b) {
			t.Fatal("Lay")
		}
	default:
		for range m.some(r) {
			if d.Clock() != m.clock() {
				t.Fatal("Clock", m.gone)
			}
			m.same(t, d)
		}
	}
}

func TestModel(t *testing.T) {
	for seed := range 60 {
		r := rand.New(rand.NewSource(int64(seed)))
		d, m := drive.New(), &model{passed: -1}
		for range 250 {
			switch r.Intn(20) {
			case 0:
				both(t, r, d.Copy(), m.copied())
			case 1:
				d = d.Copy()
			}
			both(t, r, d, m)
			m.same(t, d)
			if !bytes.Equal(d.Side(), m.side) {
				t.Fatal("Side")
			}
		}
	}
}
