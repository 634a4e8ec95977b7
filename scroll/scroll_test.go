package scroll

import (
	"bytes"
	"encoding/binary"
	"hash/crc32"
	"slices"
	"testing"
)

// some returns n bytes of all values.
func some(n int) []byte {
	p := make([]byte, n)
	for i := range p {
		p[i] = byte(i*7 + i>>8 + 1)
	}
	return p
}

// framed is a frame, made without package seal.
func framed(p []byte) []byte {
	size := binary.LittleEndian.AppendUint32(nil, uint32(len(p)))
	sum := crc32.ChecksumIEEE(append(bytes.Clone(size), p...))
	return append(binary.LittleEndian.AppendUint32(size, sum), p...)
}

func group(number uint32, l ...Write) Group {
	return Group{Number: number, Writes: l}
}

func write(side byte, at uint32, data string) Write {
	return Write{Side: side, At: at, Data: []byte(data)}
}

func join(l ...[]byte) []byte {
	return slices.Concat(l...)
}

func whole(g Group) []byte {
	return slices.Concat(Bytes(g)...)
}

func TestP3_1Right(t *testing.T) {
	for _, c := range []struct {
		side byte
		at   uint32
		n    int
		want bool
	}{
		{0, 0, 1, true},
		{7, 0, 1, true},
		{8, 0, 1, false},
		{255, 0, 1, false},
		{0, 0, 0, false},
		{0, 65535, 0, false},
		{0, 0, 4096, true},
		{0, 0, 4097, false},
		{0, 65535, 1, true},
		{0, 65535, 2, false},
		{0, 65536, 0, false},
		{0, 65536, 1, false},
		{0, 1 << 31, 1, false},
		{0, 1<<32 - 1, 1, false},
		{0, 1<<32 - 1, 2, false},
		{7, 61440, 4096, true},
		{0, 61441, 4096, false},
		{0, 61441, 4095, true},
		{0, 65500, 36, true},
		{0, 65500, 37, false},
		{0, 65536, 4096, false},
		{8, 65536, 4097, false},
	} {
		if got := (Write{c.side, c.at, some(c.n)}).Right(); got != c.want {
			t.Errorf("side %d, at %d, %d bytes: %v", c.side, c.at, c.n, got)
		}
	}
	if (Write{}).Right() {
		t.Error("zero")
	}
}

func TestP3_1Bytes(t *testing.T) {
	w := write(7, 0x0000a1b2, "xyz")
	want := framed([]byte{1, 0x78, 0x56, 0x34, 0x12, 0x04, 0x03, 0x02, 0x01, 7, 0xb2, 0xa1, 0, 0, 'x', 'y', 'z'})
	if got := w.Bytes(0x12345678, 0x01020304); !bytes.Equal(got, want) {
		t.Errorf("%x, want %x", got, want)
	}
	want = framed(join([]byte{1, 0, 0, 0, 0, 0, 0, 0, 0, 0, 0, 0, 0, 0}, some(4096)))
	if got := (Write{Data: some(4096)}).Bytes(0, 0); !bytes.Equal(got, want) {
		t.Error("longest")
	}
}

// TestP3_1BytesWrong: an invalid write has a record too; Read refuses it.
func TestP3_1BytesWrong(t *testing.T) {
	w := write(255, 1<<32-2, "")
	want := framed([]byte{1, 255, 255, 255, 255, 255, 255, 255, 255, 255, 254, 255, 255, 255})
	if got := w.Bytes(1<<32-1, -1); !bytes.Equal(got, want) {
		t.Errorf("%x, want %x", got, want)
	}
	want = framed(join([]byte{1, 1, 0, 0, 0, 2, 0, 0, 0, 3, 4, 0, 0, 0}, some(4097)))
	if got := (Write{3, 4, some(4097)}).Bytes(1, 2); !bytes.Equal(got, want) {
		t.Error("too long")
	}
}

func TestP3_1Mark(t *testing.T) {
	for _, c := range []struct {
		group uint32
		n     int
		want  []byte
	}{
		{0, 0, []byte{2, 0, 0, 0, 0, 0, 0, 0, 0}},
		{0x12345678, 0x01020304, []byte{2, 0x78, 0x56, 0x34, 0x12, 4, 3, 2, 1}},
		{1<<32 - 1, 1<<32 - 1, []byte{2, 255, 255, 255, 255, 255, 255, 255, 255}},
		{1, -1, []byte{2, 1, 0, 0, 0, 255, 255, 255, 255}},
	} {
		if got := Mark(c.group, c.n); !bytes.Equal(got, framed(c.want)) {
			t.Errorf("%d, %d: %x", c.group, c.n, got)
		}
	}
}

func TestP3_1GroupBytes(t *testing.T) {
	g := group(9, write(1, 2, "ab"), write(0, 7, "c"), write(1, 2, "ab"))
	got := Bytes(g)
	want := [][]byte{g.Writes[0].Bytes(9, 0), g.Writes[1].Bytes(9, 1), g.Writes[2].Bytes(9, 2), Mark(9, 3)}
	if !slices.EqualFunc(got, want, bytes.Equal) {
		t.Errorf("%x, want %x", got, want)
	}
	if got := Bytes(Group{Number: 5}); len(got) != 1 || !bytes.Equal(got[0], Mark(5, 0)) {
		t.Errorf("empty group: %x", got)
	}
}

func TestP3_3Same(t *testing.T) {
	g := func() Group { return group(3, write(1, 2, "ab"), write(0, 9, "c")) }
	if !Same(g(), g()) || !Same(Group{}, Group{Writes: []Write{}}) {
		t.Error("equal groups differ")
	}
	if !Same(group(0, Write{}), group(0, Write{Data: []byte{}})) {
		t.Error("nil and empty data differ")
	}
	for i, change := range []func(*Group){
		func(g *Group) { g.Number++ },
		func(g *Group) { g.Writes = g.Writes[:1] },
		func(g *Group) { g.Writes = nil },
		func(g *Group) { g.Writes = append(g.Writes, g.Writes[1]) },
		func(g *Group) { g.Writes[0], g.Writes[1] = g.Writes[1], g.Writes[0] },
		func(g *Group) { g.Writes[1].Side++ },
		func(g *Group) { g.Writes[1].At++ },
		func(g *Group) { g.Writes[1].Data[0]++ },
		func(g *Group) { g.Writes[0].Data = g.Writes[0].Data[:1] },
		func(g *Group) { g.Writes[0].Data = nil },
	} {
		h := g()
		change(&h)
		if Same(g(), h) || Same(h, g()) {
			t.Error("change", i)
		}
	}
}

// TestMemory: arguments stay as they are, and results share nothing with them or with each other.
func TestMemory(t *testing.T) {
	back := []byte("abcdef")
	w := Write{At: 1, Data: back[:2]}
	w.Bytes(1, 0)
	Bytes(group(1, w, w))
	l := []Write{w, {At: 3, Data: back[2:3]}, {At: 9, Data: back[3:4]}}
	m := Merge(l[:2:3])
	sides := [][]byte{[]byte("........"), []byte("-")}
	out, _ := Apply(sides[:1], l[:2])
	if string(back) != "abcdef" || string(sides[0]) != "........" || string(sides[1]) != "-" || l[2].At != 9 {
		t.Errorf("%q %q %v", back, sides, l)
	}
	clear(back)
	if len(m) != 1 || string(m[0].Data) != "abc" || string(out[0]) != ".abc...." {
		t.Errorf("%v %q", m, out)
	}
	m = append(m, Write{Side: 5})
	m[0].Data = append(m[0].Data, 'x')
	if l[1].Side != 0 || l[2].Side != 0 || string(back) != "\x00\x00\x00\x00\x00\x00" {
		t.Error(l, back)
	}
}

// TestMemoryApart: growing one slice of a result reaches no other.
func TestMemoryApart(t *testing.T) {
	g := group(1, write(0, 0, "ab"), write(0, 2, "cd"))
	h := group(2, write(0, 4, "ef"))
	p := join(whole(g), whole(h))
	was := bytes.Clone(p)
	l, _, _ := Read(p)
	for i := range l {
		for j := range l[i].Writes {
			d := l[i].Writes[j].Data
			fill(d[len(d):cap(d)])
		}
		s := l[i].Writes
		for k := len(s); k < cap(s); k++ {
			s[:cap(s)][k].Side = 9
		}
	}
	if !bytes.Equal(p, was) || !Same(l[0], g) || !Same(l[1], h) {
		t.Error(l)
	}
	clear(p)
	if !Same(l[0], g) || !Same(l[1], h) {
		t.Error("Read keeps its argument")
	}
	m := Merge([]Write{write(0, 0, "a"), write(0, 5, "b"), write(0, 6, "c"), write(0, 9, "d")})
	fill(m[0].Data[len(m[0].Data):cap(m[0].Data)])
	fill(m[1].Data[len(m[1].Data):cap(m[1].Data)])
	if len(m) != 3 || string(m[0].Data) != "a" || string(m[1].Data) != "bc" || string(m[2].Data) != "d" {
		t.Error(m)
	}
	one := []byte("side")
	out, _ := Apply([][]byte{one, one, nil}, nil)
	fill(out[0][:cap(out[0])])
	fill(out[2][:cap(out[2])])
	if string(out[1]) != "side" || string(one) != "side" {
		t.Errorf("%q %q", out, one)
	}
	b := Bytes(g)
	fill(b[0][:cap(b[0])])
	if !bytes.Equal(b[1], g.Writes[1].Bytes(1, 1)) || !bytes.Equal(b[2], Mark(1, 2)) {
		t.Errorf("%x", b)
	}
}

func fill(p []byte) {
	for i := range p {
		p[i] = 0xee
	}
}
