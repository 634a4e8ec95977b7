package block

import (
	"bytes"
	"math/rand"
	"slices"
	"testing"

	"kotatsu/api"
)

// some returns n bytes of all values.
func some(n int) []byte {
	p := make([]byte, n)
	for i := range p {
		p[i] = byte(i*7 + i>>8 + 1)
	}
	return p
}

// head returns the bytes of a block of kind 3 that announces n bytes.
func head(n int) []byte {
	p := some(15)
	p[12], p[13] = byte(n), byte(n/256)
	return p
}

// list returns a valid list whose files have those lengths, not made by the package.
func list(files ...int) []Block {
	l := []Block{{1, some(55)}, {2, []byte{byte(len(files))}}}
	for _, n := range files {
		l = append(l, Block{3, head(n)}, Block{4, some(n)})
	}
	return l
}

// deep returns a copy of l that shares no memory with it.
func deep(l []Block) []Block {
	var c []Block
	for _, b := range l {
		c = append(c, Block{b.Kind, bytes.Clone(b.Data)})
	}
	return c
}

// full returns the longest valid list.
func full() []Block {
	return list(make([]int, api.MaxBlocks/2-1)...)
}

func TestP5_1Right(t *testing.T) {
	for _, l := range [][]Block{
		nil, {}, list(), list(0), list(1), list(255), list(256), list(0xffff), list(3, 0, 300, 1), full(),
	} {
		for n := range len(l) + 1 {
			if !Right(l[:n]) {
				t.Fatalf("%d of %d blocks", n, len(l))
			}
		}
	}
}

func TestP5_1Wrong(t *testing.T) {
	l := list(3, 256)
	for i := range l {
		for kind := range 256 {
			c := deep(l)
			c[i].Kind = byte(kind)
			if Right(c) != (byte(kind) == l[i].Kind) || Right(c[:i+1]) != (byte(kind) == l[i].Kind) {
				t.Errorf("block %d of kind %d", i, kind)
			}
		}
		for _, data := range [][]byte{nil, l[i].Data[1:], append(some(1), l[i].Data...), some(55), some(1), some(15), some(3), some(256)} {
			c := deep(l)
			c[i].Data = data
			if len(data) != len(l[i].Data) && (Right(c) || Right(c[:i+1])) {
				t.Errorf("block %d with %d bytes", i, len(data))
			}
		}
		if i > 0 && Right(l[i:]) {
			t.Errorf("from block %d on", i)
		}
		if c := slices.Delete(deep(l), i, i+1); i < len(l)-1 && Right(c) {
			t.Errorf("without block %d", i)
		}
	}
	if Right(append(full(), Block{3, head(0)})) {
		t.Error("one more than MaxBlocks")
	}
	if Right(append(full(), Block{3, head(0)}, Block{4, nil})) {
		t.Error("two more than MaxBlocks")
	}
}

func TestP5_1FileLength(t *testing.T) {
	for _, n := range []int{0, 1, 2, 255, 256, 257, 4096, 0xff00, 0xfffe, 0xffff} {
		l := append(list(), Block{3, head(n)})
		if kind, size := Want(l); kind != 4 || size != n {
			t.Errorf("%d: %d %d", n, kind, size)
		}
		for _, size := range []int{n - 1, n, n + 1} {
			if size >= 0 && Right(append(l, Block{4, make([]byte, size)})) != (size == n) {
				t.Errorf("%d bytes for %d", size, n)
			}
		}
	}
	// Only the pair just ahead counts, and of it only bytes 12 and 13.
	l := list(7, 9)
	if kind, size := Want(l[:5]); kind != 4 || size != 9 {
		t.Error(kind, size)
	}
	l = append(list(), Block{3, bytes.Repeat([]byte{0xff}, 15)})
	l[2].Data[12], l[2].Data[13] = 2, 1
	if kind, size := Want(l); kind != 4 || size != 258 {
		t.Error(kind, size)
	}
}

func TestP5_1Want(t *testing.T) {
	l := list(3, 0)
	for n, want := range [][2]int{{1, 55}, {2, 1}, {3, 15}, {4, 3}, {3, 15}, {4, 0}, {3, 15}} {
		if kind, size := Want(l[:n]); int(kind) != want[0] || size != want[1] {
			t.Errorf("%d blocks: %d %d", n, kind, size)
		}
	}
	if kind, size := Want(full()[:api.MaxBlocks-1]); kind != 4 || size != 0 {
		t.Error("one less than full", kind, size)
	}
	if kind, size := Want(full()[:api.MaxBlocks-2]); kind != 3 || size != 15 {
		t.Error("two less than full", kind, size)
	}
}

func TestP5_1WantNothing(t *testing.T) {
	short := deep(list(3))
	short[0].Data = some(54)
	for what, l := range map[string][]Block{
		"full":          full(),
		"more":          append(full(), Block{3, head(0)}),
		"begins with 2": list()[1:],
		"begins with 0": {{}},
		"short first":   short,
		"short head":    append(list(), Block{3, some(14)}),
		"no head":       append(list(), Block{3, nil}),
		"short file":    append(list(), Block{3, head(3)}, Block{4, some(2)}),
		"wrong last":    append(list(), Block{4, nil}),
		"wrong middle":  append(list(), Block{3, head(1)}, Block{3, head(1)}, Block{3, head(1)}),
	} {
		if kind, size := Want(l); kind != 0 || size != 0 {
			t.Errorf("%s: %d %d", what, kind, size)
		}
	}
}

func TestP5_1Size(t *testing.T) {
	for _, c := range []struct {
		l    []Block
		want int
	}{
		{nil, 0}, {[]Block{}, 0}, {Disk("", 0), 58}, {list(), 58}, {list()[:1], 56},
		{list(0), 75}, {list(3, 256), 58 + 16 + 4 + 16 + 257}, {list(0xffff), 74 + 65536},
		{[]Block{{}}, 1}, {[]Block{{9, some(5)}, {0, nil}, {1, some(1)}}, 9}, // a wrong list has a size too
		{append(full(), Block{7, some(2)}), 58 + 255*17 + 3},
	} {
		if n := Size(c.l); n != c.want {
			t.Errorf("%d, want %d", n, c.want)
		}
	}
}

// flat returns the bytes of l, by the words of the document.
func flat(l []Block) []byte {
	var p []byte
	for _, b := range l {
		p = append(append(p, b.Kind), b.Data...)
	}
	return p
}

func TestP5_2Side(t *testing.T) {
	for _, l := range [][]Block{nil, list()[:1], list(), list(0), list(3)[:3], list(3, 300), full()} {
		for _, more := range []int{0, 1, 100, 65536} {
			n := Size(l)
			p, ok := Side(l, n+more)
			if !ok || !bytes.Equal(p, append(flat(l), make([]byte, more)...)) {
				t.Errorf("%d blocks and %d bytes: %d %t", len(l), more, len(p), ok)
			}
		}
	}
}

func TestP5_2SideWrong(t *testing.T) {
	for what, c := range map[string]struct {
		l    []Block
		size int
	}{
		"one byte too few":     {list(3), 77},
		"no room":              {list(), 0},
		"below 0":              {list(), -1},
		"nothing, below 0":     {nil, -1},
		"far below 0":          {nil, -1 << 63},
		"beyond all memory":    {nil, 1<<63 - 1},
		"beyond the promises":  {list(), 1 << 31},
		"invalid":              {list()[1:], 1000},
		"invalid, no room":     {list()[1:], 0},
		"more than MaxBlocks":  {append(full(), Block{3, head(0)}), 65536},
		"wrong length of data": {append(list(), Block{3, head(2)}, Block{4, some(3)}), 1000},
	} {
		if p, ok := Side(c.l, c.size); p != nil || ok {
			t.Errorf("%s: %d %t", what, len(p), ok)
		}
	}
}

// parsed fails if Parse of p answers other than the first n blocks of l.
func parsed(t *testing.T, what string, p []byte, l []Block, n int) {
	t.Helper()
	got, size := Parse(p)
	if !Same(got, l[:n]) || size != Size(l[:n]) {
		t.Errorf("%s: %d blocks in %d bytes, want %d blocks", what, len(got), size, n)
	}
}

func TestP5_2Parse(t *testing.T) {
	parsed(t, "nil", nil, nil, 0)
	parsed(t, "empty", []byte{}, nil, 0)
	parsed(t, "a zero", []byte{0}, nil, 0)
	for _, l := range [][]Block{list(), list(0), list(1), list(3, 300, 0, 0xffff, 2), full()} {
		for n := range len(l) + 1 {
			parsed(t, "to the end", flat(l[:n]), l, n)
			parsed(t, "and a zero", append(flat(l[:n]), 0), l, n)
			parsed(t, "and zeros", append(flat(l[:n]), make([]byte, 1000)...), l, n)
		}
	}
}

func TestP5_2ParseCut(t *testing.T) {
	l := list(3, 0, 20)
	p := flat(l)
	n := 0
	for cut := range len(p) {
		for n < len(l) && Size(l[:n+1]) <= cut {
			n++
		}
		parsed(t, "cut", p[:cut], l, n)
		parsed(t, "cut, more behind the cut", p[:cut:len(p)], l, n)
	}
}

func TestP5_2ParseKinds(t *testing.T) {
	l := list(3, 20)
	for i := range l {
		for kind := range 256 {
			p := flat(l)
			p[Size(l[:i])] = byte(kind)
			n := i
			if byte(kind) == l[i].Kind {
				n = len(l)
			}
			parsed(t, "another kind", p, l, n)
		}
	}
}

func TestP5_2ParseFull(t *testing.T) {
	l := append(full(), list(1, 2, 3)[2:]...)
	parsed(t, "more than MaxBlocks", flat(l), l, api.MaxBlocks)
	parsed(t, "MaxBlocks and a zero", append(flat(full()), 0), l, api.MaxBlocks)
}

func TestP5_2ParseLongFile(t *testing.T) {
	l := list(0xffff)
	parsed(t, "the longest", flat(l), l, 4)
	parsed(t, "a byte less", flat(l)[:Size(l)-1], l, 3)
}

func TestP5_3File(t *testing.T) {
	for _, c := range []struct {
		number, id byte
		name       string
		address    uint16
		kind       byte
		data       []byte
		head       string
	}{
		{1, 2, "NAME", 0x6000, 0, []byte("abc"), "\x01\x02NAME\x00\x00\x00\x00\x00\x60\x03\x00\x00"},
		{255, 254, "", 0x1234, 253, nil, "\xff\xfe\x00\x00\x00\x00\x00\x00\x00\x00\x34\x12\x00\x00\xfd"},
		{0, 0, "ABCDEFGH", 0xffff, 1, some(256), "\x00\x00ABCDEFGH\xff\xff\x00\x01\x01"},
		{0, 0, "ABCDEFGHIJ", 0, 2, some(255), "\x00\x00ABCDEFGH\x00\x00\xff\x00\x02"},
		{3, 4, "\u00e9\u00e9\u00e9\u00e9\u00e9", 1, 3, some(1), "\x03\x04\xc3\xa9\xc3\xa9\xc3\xa9\xc3\xa9\x01\x00\x01\x00\x03"},
		{3, 4, "a\u65e5\u672c\u8a9e", 1, 3, []byte{}, "\x03\x04a\xe6\x97\xa5\xe6\x9c\xac\xe8\x01\x00\x00\x00\x03"},
		{5, 6, "\xff\x00x", 0x00ff, 4, some(0xffff), "\x05\x06\xff\x00x\x00\x00\x00\x00\x00\xff\x00\xff\xff\x04"},
	} {
		l := File(c.number, c.id, c.name, c.address, c.kind, c.data)
		if !Same(l, []Block{{3, []byte(c.head)}, {4, c.data}}) {
			t.Errorf("%q: %d blocks", c.name, len(l))
		}
		if !Right(append(list(), l...)) {
			t.Errorf("%q: not right", c.name)
		}
	}
}

func TestP5_3FileTooLong(t *testing.T) {
	for _, n := range []int{0x10000, 0x10001, 0x20000} {
		if l := File(1, 2, "A", 3, 4, make([]byte, n)); len(l) != 0 {
			t.Errorf("%d bytes: %d blocks", n, len(l))
		}
	}
}

func TestP5_3Disk(t *testing.T) {
	for _, c := range []struct{ sign, want string }{
		{"", "\x00\x00\x00\x00\x00\x00\x00\x00\x00\x00\x00\x00\x00\x00"},
		{"K", "K\x00\x00\x00\x00\x00\x00\x00\x00\x00\x00\x00\x00\x00"},
		{"*NINTENDO-HVC*", "*NINTENDO-HVC*"},
		{"*NINTENDO-HVC*+", "*NINTENDO-HVC*"},
		{"\x01234567890123456789012345", "\x012345678901234"},
		{"1234567890123\u00e9", "1234567890123\xc3"},
	} {
		for _, side := range []byte{0, 1, 255} {
			want := append([]byte(c.want), make([]byte, 41)...)
			want[20] = side
			if l := Disk(c.sign, side); !Same(l, []Block{{1, want}, {2, []byte{0}}}) || Size(l) != 58 || !Right(l) {
				t.Errorf("%q %d", c.sign, side)
			}
		}
	}
}

func TestP5_3DiskFiles(t *testing.T) {
	a, b := File(1, 2, "A", 3, 4, some(5)), File(6, 7, "B", 8, 9, some(300))
	l := Disk("K", 1, a, b, a)
	want := slices.Concat(Disk("K", 1), a, b, a)
	want[1].Data[0] = 3
	if !Same(l, want) || !Right(l) {
		t.Error("three files")
	}
	for _, n := range []int{1, 2, 255, 256, 257, 600} {
		l := Disk("", 0, make([][]Block, n)...)
		if len(l) != 2 || l[1].Data[0] != byte(n) {
			t.Errorf("%d empty files: %v", n, l[1])
		}
	}
	many := slices.Repeat([][]Block{a}, 256)
	if l := Disk("", 0, many...); len(l) != 514 || l[1].Data[0] != 0 || Right(l) {
		t.Error("256 files")
	}
	if l := Disk("", 0, many[1:]...); len(l) != 512 || l[1].Data[0] != 255 || !Right(l) {
		t.Error("255 files")
	}
	odd := []Block{{9, some(2)}, {0, nil}}
	if l := Disk("", 0, odd, a); !Same(l[2:], append(odd, a...)) {
		t.Error("blocks of other kinds")
	}
}

func TestP5_3Same(t *testing.T) {
	l := list(3, 0)
	if !Same(l, deep(l)) || !Same(nil, []Block{}) || !Same([]Block{{4, nil}}, []Block{{4, []byte{}}}) {
		t.Error("equal")
	}
	for n := range l {
		if Same(l, l[:n]) || Same(l[:n], l) {
			t.Errorf("%d blocks", n)
		}
		c := deep(l)
		c[n].Kind++
		if Same(l, c) {
			t.Errorf("kind of %d", n)
		}
		c = deep(l)
		c[n].Data = append(c[n].Data, 0)
		if Same(l, c) || Same(c, l) {
			t.Errorf("length of %d", n)
		}
		for i := range l[n].Data {
			c = deep(l)
			c[n].Data[i]++
			if Same(l, c) {
				t.Errorf("byte %d of %d", i, n)
			}
		}
	}
	odd := []Block{{9, nil}, {0, some(3)}} // lists that are not valid are equal too
	if !Same(odd, deep(odd)) || Same(odd, odd[:1]) {
		t.Error("invalid lists")
	}
}

// TestP5_2Back: what is written is read back, whatever the files are.
func TestP5_2Back(t *testing.T) {
	r := rand.New(rand.NewSource(5))
	for range 300 {
		var files [][]Block
		for range r.Intn(6) {
			data := make([]byte, r.Intn(400))
			r.Read(data)
			files = append(files, File(byte(r.Int()), byte(r.Int()), "N", uint16(r.Int()), byte(r.Int()), data))
		}
		l := Disk("S", byte(r.Int()), files...)
		l = l[:r.Intn(len(l)+1)]
		p, ok := Side(l, Size(l)+r.Intn(50))
		if got, n := Parse(p); !ok || !Same(got, l) || n != Size(l) {
			t.Fatal(len(got), n, ok)
		}
	}
}

// TestP5_2Random: Parse answers a valid list whose bytes p begins with, and none longer.
func TestP5_2Random(t *testing.T) {
	r := rand.New(rand.NewSource(6))
	for range 3000 {
		p := flat(list(r.Intn(5), r.Intn(5), r.Intn(5)))
		for range r.Intn(4) {
			p[r.Intn(len(p))] = byte(r.Intn(6))
		}
		p = p[:r.Intn(len(p)+1)]
		l, n := Parse(p)
		if !Right(l) || n != Size(l) || !bytes.Equal(flat(l), p[:n]) {
			t.Fatal(len(l), n)
		}
		if kind, size := Want(l); n < len(p) && p[n] == kind && len(p) >= n+1+size {
			t.Fatalf("one more of kind %d", kind)
		}
	}
}

func TestMemory(t *testing.T) {
	back := some(100)
	kept := bytes.Clone(back)
	f := File(1, 2, "A", 3, 4, back[:10])
	want := deep(f)
	clear(f[0].Data[:cap(f[0].Data)])
	if !Same(f[1:], want[1:]) {
		t.Error("the blocks of File share memory")
	}
	clear(f[1].Data[:cap(f[1].Data)])
	if !bytes.Equal(back, kept) {
		t.Error("File shares memory")
	}
	f = deep(want)
	l := Disk("K", 1, f, f)
	for _, b := range l[:4] {
		clear(b.Data[:cap(b.Data)])
	}
	if !Same(f, want) || !Same(l[4:], want) {
		t.Error("Disk shares memory")
	}
	l = Disk("K", 1, f)
	clear(f)
	if !Same(l[2:], want) {
		t.Error("Disk keeps its files")
	}
	p, _ := Side(l, 100)
	q := bytes.Clone(p)
	got, _ := Parse(p)
	clear(got[0].Data[:cap(got[0].Data)])
	if !Same(got[1:], l[1:]) || !bytes.Equal(p, q) {
		t.Error("Parse shares memory")
	}
	got, _ = Parse(p)
	clear(p[:cap(p)])
	if p2, _ := Side(l, 100); !Same(got, l) || !bytes.Equal(p2, q) {
		t.Error("Side shares memory")
	}
	spare := append(make([]Block, 0, 8), l...)
	Right(spare)
	Want(spare)
	if rest := spare[len(l):cap(spare)]; !Same(rest, make([]Block, len(rest))) {
		t.Error("spare capacity is written")
	}
}
