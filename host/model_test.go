package host

import (
	"maps"
	"math/rand"
	"slices"
	"strconv"
	"testing"

	"kotatsu/api"
)

// model keeps the names after each name operation as a whole, and each file by number.
type model struct {
	states       []map[string]int // the first is durable, the last is now
	data         []string
	durable      []int
	limit, reads int
	arm, fault   int
}

func (m *model) now() map[string]int { return m.states[len(m.states)-1] }

func (m *model) next() map[string]int {
	m.states = append(m.states, maps.Clone(m.now()))
	return m.now()
}

func (m *model) used() int {
	n := 0
	for _, id := range m.now() {
		n += len(m.data[id])
	}
	return n
}

func (m *model) crash(keep int, tails []int) []string {
	names := m.states[min(max(keep, 0), len(m.states)-1)]
	var l []string
	for i, name := range slices.Sorted(maps.Keys(names)) {
		id := names[name]
		n := m.durable[id]
		if len(tails) > 0 {
			n = min(len(m.data[id]), n+max(0, tails[i%len(tails)]))
		}
		l = append(l, name, m.data[id][:n])
	}
	return l
}

// count answers what Arm and Fault make of one call.
func (m *model) count(looks bool) api.Errno {
	off, faulty := false, m.fault == 0
	if !looks {
		off = m.arm == 0
		if m.arm > 0 {
			m.arm--
		}
	}
	m.fault = max(m.fault-1, -1)
	if off {
		return api.ErrOff
	}
	if faulty {
		return api.ErrIO
	}
	return api.OK
}

func (m *model) call(kind int, a, b string, p []byte) (string, api.Errno) {
	if e := m.count(kind >= 5); e != api.OK {
		return "", e
	}
	id, there := m.now()[a]
	switch {
	case kind == 0 && (a == "" || len(a) > 32):
		return "", api.ErrArg
	case kind == 0 && there:
		return "", api.ErrTwice
	case kind == 0:
		m.next()[a] = len(m.data)
		m.data = append(m.data, "")
		m.durable = append(m.durable, 0)
	case kind == 3 && (b == "" || len(b) > 32):
		return "", api.ErrArg
	case !there:
		return "", api.ErrNone
	case kind == 1 && m.used()+len(p) > m.limit:
		return "", api.ErrFull
	case kind == 1:
		m.data[id] += string(p)
	case kind == 2:
		m.durable[id] = len(m.data[id])
		m.states = []map[string]int{m.now()}
	case kind == 3 && a != b:
		l := m.next()
		delete(l, a)
		l[b] = id
	case kind == 4:
		delete(m.next(), a)
	case kind == 5:
		m.reads += len(m.data[id])
		return m.data[id], api.OK
	case kind == 6:
		return strconv.Itoa(len(m.data[id])), api.OK
	}
	return "", api.OK
}

func hostCall(h *Host, kind int, a, b string, p []byte) (string, api.Errno) {
	switch kind {
	case 0:
		return "", h.Create(a)
	case 1:
		return "", h.Append(a, p)
	case 2:
		return "", h.Sync(a)
	case 3:
		return "", h.Rename(a, b)
	case 4:
		return "", h.Remove(a)
	case 5:
		q, e := h.Read(a)
		return string(q), e
	}
	n, e := h.Size(a)
	if e != api.OK {
		return "", e
	}
	return strconv.Itoa(n), e
}

// TestModel holds many calls in a row against the model: P1.1, P1.2 and P1.3 together.
func TestModel(t *testing.T) {
	names := []string{"", "a", "b", "c", "tmp", "base", "0123456789abcdef0123456789abcdef", "0123456789abcdef0123456789abcdefg"}
	for seed := range int64(150) {
		r := rand.New(rand.NewSource(seed))
		m := &model{states: []map[string]int{{}}, limit: 60, arm: -1, fault: -1}
		h := New(60)
		for step := range 200 {
			switch r.Intn(40) {
			case 0:
				m.arm = r.Intn(10) - 5
				h.Arm(m.arm)
			case 1:
				m.fault = r.Intn(10) - 3
				h.Fault(m.fault)
			case 2:
				n := r.Intn(80) - 5
				m.limit = max(n, 0)
				h.Limit(n)
			case 3:
				h = h.Copy()
			}
			kind, a, b := r.Intn(7), names[r.Intn(len(names))], names[r.Intn(len(names))]
			p := []byte("abcdefghijkl")[:r.Intn(12)]
			wantText, wantErr := m.call(kind, a, b, p)
			if text, e := hostCall(h, kind, a, b, p); text != wantText || e != wantErr {
				t.Fatalf("seed %d step %d: call %d %q %q: %q %d, want %q %d", seed, step, kind, a, b, text, e, wantText, wantErr)
			}
			if h.Used() != m.used() || h.Reads() != m.reads || !slices.Equal(h.Names(), slices.Sorted(maps.Keys(m.now()))) {
				t.Fatalf("seed %d step %d: used %d, reads %d, names %q", seed, step, h.Used(), h.Reads(), h.Names())
			}
			keep, tails := r.Intn(8)-1, []int{r.Intn(9) - 1, r.Intn(9) - 1, r.Intn(9) - 1}[:r.Intn(4)]
			holds(t, "crash", h.Crash(keep, tails), m.crash(keep, tails)...)
		}
		if t.Failed() {
			t.Fatal("seed", seed)
		}
	}
}
