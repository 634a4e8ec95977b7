package groove

import (
	"bytes"
	"math/rand"
	"slices"
	"testing"

	"kotatsu/scroll"
)

func TestP7_3Patch(t *testing.T) {
	p := some(10)
	for at := range 11 {
		for n := range 11 - at {
			data := bytes.Repeat([]byte{0xee}, n)
			want := slices.Concat(p[:at], data, p[at+n:])
			if q, ok := Patch(p, at, data); !ok || !bytes.Equal(q, want) {
				t.Errorf("%d bytes at %d: %v %t", n, at, q, ok)
			}
		}
	}
	if q, ok := Patch(nil, 0, nil); !ok || len(q) != 0 {
		t.Error("nothing in nothing")
	}
	if q, ok := Patch([]byte{}, 0, []byte{}); !ok || len(q) != 0 {
		t.Error("empty in empty")
	}
	if q, ok := Patch(p, 3, []byte{5, 6}); !ok || !bytes.Equal(q, []byte{1, 8, 15, 5, 6, 36, 43, 50, 57, 64}) {
		t.Error(q)
	}
}

func TestP7_3PatchWrong(t *testing.T) {
	p := some(10)
	const far = 1<<63 - 1
	for _, c := range []struct {
		p  []byte
		at int
		n  int
	}{
		{p, -1, 0}, {p, -1, 1}, {p, -1, 2}, {p, -far - 1, 0}, {p, -far - 1, 5}, {p, -far, 11},
		{p, 11, 0}, {p, 10, 1}, {p, 9, 2}, {p, 0, 11}, {p, 1, 10}, {p, 1, 300}, {p, far, 0}, {p, far, 1}, {p, far, 11},
		{nil, 0, 1}, {nil, 1, 0}, {nil, -1, 0}, {nil, -1, 1}, {nil, far, 1},
		{p[:5], 5, 1}, {p[:5], 3, 3}, {p[:5], 6, 0}, // the spare capacity does not count
	} {
		if q, ok := Patch(c.p, c.at, make([]byte, c.n)); q != nil || ok {
			t.Errorf("%d bytes at %d of %d: %v %t", c.n, c.at, len(c.p), q, ok)
		}
	}
}

// differ returns a and b of n bytes that differ in those runs, given as begin and end.
func differ(n int, runs ...[2]int) ([]byte, []byte) {
	a := some(n)
	b := bytes.Clone(a)
	for _, r := range runs {
		for i := r[0]; i < r[1]; i++ {
			b[i] ^= byte(i%255 + 1)
		}
	}
	return a, b
}

func TestP7_3Diff(t *testing.T) {
	type runs = [][2]int
	for _, c := range []struct {
		n          int
		runs, want runs
	}{
		{0, nil, nil},
		{1, nil, nil},
		{70000, nil, nil},
		{1, runs{{0, 1}}, runs{{0, 1}}},
		{5, runs{{0, 5}}, runs{{0, 5}}},
		{9, runs{{0, 1}, {8, 9}}, runs{{0, 1}, {8, 9}}},
		{9, runs{{0, 1}, {2, 3}, {4, 5}}, runs{{0, 1}, {2, 3}, {4, 5}}},
		{9, runs{{1, 4}, {5, 9}}, runs{{1, 4}, {5, 9}}},
		{4095, runs{{0, 4095}}, runs{{0, 4095}}},
		{4096, runs{{0, 4096}}, runs{{0, 4096}}},
		{4097, runs{{0, 4097}}, runs{{0, 4096}, {4096, 4097}}},
		{4098, runs{{1, 4097}}, runs{{1, 4097}}},
		{8192, runs{{0, 8192}}, runs{{0, 4096}, {4096, 8192}}},
		{9000, runs{{7, 8200}, {8201, 9000}}, runs{{7, 4103}, {4103, 8199}, {8199, 8200}, {8201, 9000}}},
		{9000, runs{{7, 4103}, {4104, 8300}}, runs{{7, 4103}, {4104, 8200}, {8200, 8300}}},
		{65536, runs{{65535, 65536}}, runs{{65535, 65536}}},
		{65536, runs{{60000, 65536}}, runs{{60000, 64096}, {64096, 65536}}},
		{100000, runs{{70000, 70001}, {99998, 100000}}, runs{{70000, 70001}, {99998, 100000}}},
	} {
		a, b := differ(c.n, c.runs...)
		var want []scroll.Write
		for _, r := range c.want {
			want = append(want, scroll.Write{Side: 0, At: uint32(r[0]), Data: b[r[0]:r[1]]})
		}
		if l := Diff(a, b); !scroll.Same(scroll.Group{Writes: l}, scroll.Group{Writes: want}) {
			t.Errorf("%v of %d: %d writes", c.runs, c.n, len(l))
		}
	}
}

func TestP7_3DiffWrong(t *testing.T) {
	a, b := differ(10, [2]int{2, 4})
	for n := range 10 {
		if len(Diff(a[:n], b)) != 0 || len(Diff(a, b[:n])) != 0 || len(Diff(a[n+1:], b)) != 0 {
			t.Errorf("%d bytes and ten", n)
		}
	}
	if len(Diff(nil, a)) != 0 || len(Diff(a, nil)) != 0 || len(Diff(nil, nil)) != 0 || len(Diff(nil, []byte{})) != 0 {
		t.Error("nothing")
	}
}

// TestP7_3Both: the writes turn the first into the second, touch no byte that is equal, and none could be joined but those that a record cuts.
func TestP7_3Both(t *testing.T) {
	r := rand.New(rand.NewSource(73))
	for range 300 {
		a := make([]byte, r.Intn(9000))
		b := make([]byte, len(a))
		same := 1 + r.Intn(3000)
		for i := range b {
			a[i] = byte(r.Int())
			b[i] = a[i]
			if r.Intn(same) != 0 {
				b[i] ^= byte(1 + r.Intn(255))
			}
		}
		q, end, last := a, -1, 0
		for _, w := range Diff(a, b) {
			at := int(w.At)
			if !w.Right() || w.Side != 0 || at < end || at == end && last != 4096 {
				t.Fatal(w.Side, at, len(w.Data), end)
			}
			for i := range w.Data {
				if a[at+i] == b[at+i] {
					t.Fatal("an equal byte")
				}
			}
			var ok bool
			if q, ok = Patch(q, at, w.Data); !ok {
				t.Fatal("beyond the end")
			}
			last = len(w.Data)
			end = at + last
		}
		if !bytes.Equal(q, b) {
			t.Fatal("not the second")
		}
	}
}

func TestMemoryOfWrites(t *testing.T) {
	back := some(20)
	kept := bytes.Clone(back)
	data := append(make([]byte, 0, 8), 9, 9)
	p := back[:10]
	q, _ := Patch(p, 1, data)
	same, _ := Patch(p, 10, nil)
	if !bytes.Equal(back, kept) || !bytes.Equal(data[:8], []byte{9, 9, 0, 0, 0, 0, 0, 0}) {
		t.Error("Patch changes an argument")
	}
	clear(same[:cap(same)])
	clear(data)
	if !bytes.Equal(back, kept) || q[1] != 9 || q[2] != 9 {
		t.Error("Patch shares memory")
	}
	a, b := differ(9000, [2]int{1, 8500}, [2]int{8501, 8503})
	a2, b2 := bytes.Clone(a), bytes.Clone(b)
	l := Diff(a, b)
	for i, w := range l {
		clear(w.Data[:cap(w.Data)])
		for _, x := range l[i+1:] {
			if !bytes.Equal(x.Data, b[x.At:int(x.At)+len(x.Data)]) {
				t.Error("the writes share memory")
			}
		}
	}
	if !bytes.Equal(a, a2) || !bytes.Equal(b, b2) {
		t.Error("Diff shares memory")
	}
	l = Diff(a, b)
	clear(b)
	if len(l) != 4 || !bytes.Equal(l[3].Data, b2[8501:8503]) {
		t.Error("Diff keeps its argument")
	}
}
