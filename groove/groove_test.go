package groove

import (
	"bytes"
	"math/rand"
	"slices"
	"testing"

	"kotatsu/api"
	"kotatsu/block"
	"kotatsu/seal"
)

// some returns n bytes of all values.
func some(n int) []byte {
	p := make([]byte, n)
	for i := range p {
		p[i] = byte(i*7 + i>>8 + 1)
	}
	return p
}

// head returns a block of kind 3 that announces n bytes.
func head(n int) block.Block {
	p := some(15)
	p[12], p[13] = byte(n), byte(n/256)
	return block.Block{Kind: 3, Data: p}
}

// list returns a valid list whose files have those lengths.
func list(files ...int) []block.Block {
	l := []block.Block{{Kind: 1, Data: some(55)}, {Kind: 2, Data: []byte{byte(len(files))}}}
	for _, n := range files {
		l = append(l, head(n), block.Block{Kind: 4, Data: some(n)})
	}
	return l
}

// most returns the longest valid list.
func most() []block.Block {
	return list(make([]int, api.MaxBlocks/2-1)...)
}

// deep returns a copy of l that shares no memory with it.
func deep(l []block.Block) []block.Block {
	var c []block.Block
	for _, b := range l {
		c = append(c, block.Block{Kind: b.Kind, Data: bytes.Clone(b.Data)})
	}
	return c
}

// sealed returns a block as the head reads it, by the words of the document.
func sealed(b block.Block) []byte {
	p := append([]byte{0x80, b.Kind}, b.Data...)
	sum := seal.Short(p)
	return append(p, byte(sum%256), byte(sum/256))
}

// raw returns the blocks behind a number of zeros, each with a number of zeros behind it.
func raw(lead, gap int, l []block.Block) []byte {
	p := make([]byte, lead)
	for _, b := range l {
		p = append(append(p, sealed(b)...), make([]byte, gap)...)
	}
	return p
}

// brim is the number of bytes with which a raw side of one file is just full.
var brim = api.Quick - len(raw(3500, 120, list(0)))

func TestP7_1Constants(t *testing.T) {
	if Lead != 3500 || Gap != 120 || Mark != 0x80 {
		t.Error(Lead, Gap, Mark)
	}
}

func TestP7_1Lay(t *testing.T) {
	for _, l := range [][]block.Block{
		nil, {}, list()[:1], list(), list(3)[:3], list(0), list(1), list(255), list(256), list(257), list(3, 0, 4097, 1),
		list(brim - 1), list(brim), block.Disk("*NINTENDO-HVC*", 1, block.File(1, 2, "A", 3, 4, some(9))),
		list(make([]int, 200)...),
	} {
		want := raw(3500, 120, l)
		if p, ok := Lay(l); !ok || !bytes.Equal(p, want) {
			t.Errorf("%d blocks: %d bytes, want %d", len(l), len(p), len(want))
		}
		if n := Full(l); n != len(want) {
			t.Errorf("%d blocks: full is %d, want %d", len(l), n, len(want))
		}
	}
	p, _ := Lay(block.Disk("K", 0))
	if !bytes.Equal(p[:3500], make([]byte, 3500)) || p[3500] != 0x80 || p[3501] != 1 || p[3502] != 'K' || len(p) != 3804 {
		t.Error("a disk without files")
	}
}

func TestP7_1LayWrong(t *testing.T) {
	for what, l := range map[string][]block.Block{
		"a byte too many":     list(brim + 1),
		"far too many":        list(0xffff, 0xffff),
		"too many blocks":     append(most(), head(0)),
		"more gaps than room": most(),
		"begins with 2":       list()[1:],
		"kind 0":              {{}},
		"short data":          append(list(), head(3), block.Block{Kind: 4, Data: some(2)}),
		"long data":           append(list(), head(3), block.Block{Kind: 4, Data: some(4)}),
		"wrong last":          append(list(), list()[0]),
		"wrong kind":          append(list(), block.Block{Kind: 4, Data: some(15)}),
	} {
		if p, ok := Lay(l); p != nil || ok {
			t.Errorf("%s: %d %t", what, len(p), ok)
		}
	}
}

// TestP7_1Full: the length that the result would have, also if it is too long, or the list invalid.
func TestP7_1Full(t *testing.T) {
	for _, c := range []struct {
		l    []block.Block
		want int
	}{
		{nil, 3500}, {list()[:1], 3679}, {list(), 3804}, {list(brim), 65536}, {list(brim + 1), 65537},
		{most(), 3804 + 255*(139+124)}, {list(0xffff), 3804 + 139 + 124 + 65535},
		{[]block.Block{{}}, 3624}, {[]block.Block{{Kind: 9, Data: some(5)}, {}}, 3500 + 129 + 124},
	} {
		if n := Full(c.l); n != c.want {
			t.Errorf("%d, want %d", n, c.want)
		}
	}
}

func TestP7_1Places(t *testing.T) {
	for _, l := range [][]block.Block{nil, {}, list()[:1], list(), list(0), list(3, 300, 0, 1), list(brim), most(), list(0xffff, 0xffff)} {
		p := raw(3500, 120, l)
		places := Places(l)
		if len(places) != len(l) {
			t.Fatalf("%d places of %d blocks", len(places), len(l))
		}
		for i, at := range places {
			b := l[i]
			if at != len(raw(3500, 120, l[:i]))+1 || p[at-1] != 0x80 || p[at] != b.Kind || !bytes.Equal(p[at+1:at+1+len(b.Data)], b.Data) {
				t.Errorf("block %d of %d at %d", i, len(l), at)
			}
		}
	}
	if l := Places(list(10, 0)); !slices.Equal(l, []int{3501, 3680, 3805, 3944, 4078, 4217}) {
		t.Error(l)
	}
	if l := Places([]block.Block{{Kind: 9, Data: some(5)}, {}}); !slices.Equal(l, []int{3501, 3630}) {
		t.Error("an invalid list", l)
	}
}

// reads fails if Read of p answers anything but l.
func reads(t *testing.T, what string, p []byte, l []block.Block) {
	t.Helper()
	if got, e := Read(p); e != api.OK || !block.Same(got, l) {
		t.Errorf("%s: %d blocks and error %d, want %d blocks", what, len(got), e, len(l))
	}
}

// refuses fails if Read of p answers another error than e, or anything beside it.
func refuses(t *testing.T, what string, p []byte, e api.Errno) {
	t.Helper()
	if l, got := Read(p); got != e || l != nil {
		t.Errorf("%s: %d blocks and error %d, want error %d", what, len(l), got, e)
	}
}

func TestP7_2Read(t *testing.T) {
	reads(t, "nil", nil, nil)
	reads(t, "empty", []byte{}, nil)
	for _, n := range []int{1, 2, 3500, 65536, 100000} {
		reads(t, "zeros", make([]byte, n), nil)
	}
	for _, l := range [][]block.Block{list()[:1], list(), list(3)[:3], list(0), list(1), list(3, 300, 0, 7), list(0xffff, 2, 0xffff)} {
		for _, lead := range []int{0, 1, 2, 3499, 3500, 3501, 70000} {
			for _, gap := range []int{0, 1, 119, 120, 121, 5000} {
				reads(t, "with zeros", raw(lead, gap, l), l)
			}
		}
	}
}

// TestP7_2Zeros: the zeros of a block and of its sum are its own, and those behind it no more than zeros.
func TestP7_2Zeros(t *testing.T) {
	l := []block.Block{{Kind: 1, Data: make([]byte, 55)}, {Kind: 2, Data: make([]byte, 1)}, {Kind: 3, Data: make([]byte, 15)}, {Kind: 4}}
	for n := range len(l) + 1 {
		reads(t, "data of zeros", raw(9, 0, l[:n]), l[:n])
		reads(t, "data of zeros, gaps", raw(9, 3, l[:n]), l[:n])
	}
	marks := list(300)
	for _, b := range []block.Block{marks[0], marks[1], marks[3]} {
		copy(b.Data, bytes.Repeat([]byte{0x80, 4}, len(b.Data)))
	}
	reads(t, "data of marks", raw(0, 0, marks), marks)
	low, high := false, false
	for n := range 1 << 16 {
		l := list()
		l[0].Data[20], l[0].Data[21] = byte(n), byte(n>>8)
		p := sealed(l[0])
		if low, high = low || p[57] == 0, high || p[58] == 0; p[57] == 0 || p[58] == 0 {
			reads(t, "zeros in the sum", raw(1, 0, l), l)
			reads(t, "zeros in the sum at the end", p, l[:1])
		}
	}
	if !low || !high {
		t.Error("no sum with a zero")
	}
}

func TestP7_2Cut(t *testing.T) {
	l := list(3, 0, 20)
	p := raw(50, 9, l)
	begin := 50
	for i, b := range l {
		end := begin + len(sealed(b))
		for cut := begin + 1; cut < end; cut++ {
			refuses(t, "an incomplete block", p[:cut], api.ErrForm)
			refuses(t, "an incomplete block, more behind the cut", p[:cut:len(p)], api.ErrForm)
		}
		for cut := end; cut <= end+9; cut++ {
			reads(t, "cut behind a block", p[:cut], l[:i+1])
		}
		begin = end + 9
	}
	for cut := range 51 {
		reads(t, "zeros alone", p[:cut], nil)
	}
}

func TestP7_2Kinds(t *testing.T) {
	l := list(3, 15)
	for i := range l {
		for kind := range 256 {
			wrong := deep(l)
			wrong[i].Kind = byte(kind)
			p := raw(5, 5, wrong)
			if byte(kind) == l[i].Kind {
				reads(t, "the wanted kind", p, l)
			} else {
				refuses(t, "another kind with its sum", p, api.ErrForm)
			}
		}
	}
	for _, l := range [][]block.Block{list()[1:], list(3)[2:], append(list(), list()...), slices.Delete(list(3), 1, 2), slices.Delete(list(3), 2, 3)} {
		refuses(t, "not in their order", raw(5, 5, l), api.ErrForm)
	}
}

// TestP7_2Changed: every byte of a raw side counts, and each for its own error.
func TestP7_2Changed(t *testing.T) {
	l := list(3, 0)
	p := raw(4, 3, l)
	want := make([]api.Errno, 4)
	for _, b := range l {
		want = append(want, api.ErrForm, api.ErrForm)
		want = append(want, slices.Repeat([]api.Errno{api.ErrSum}, len(b.Data)+2)...)
		want = append(want, 0, 0, 0)
	}
	for i := range want {
		if want[i] == 0 {
			want[i] = api.ErrForm // another byte than Mark, or a Mark and no kind behind it
		}
		for x := 1; x < 256; x++ {
			p[i] ^= byte(x)
			refuses(t, "another byte", p, want[i])
			p[i] ^= byte(x)
		}
	}
	reads(t, "as it was", p, l)
}

func TestP7_2First(t *testing.T) {
	l := list(3, 20)
	for i := range l {
		for j := range l {
			p := raw(9, 9, l)
			form, sum := len(raw(9, 9, l[:i])), len(raw(9, 9, l[:j]))+3
			if len(l[j].Data) == 1 {
				sum-- // the one byte of data
			}
			p[form] ^= 1
			p[sum] ^= 1
			e := api.ErrForm
			if j < i {
				e = api.ErrSum
			}
			refuses(t, "two faults", p, e)
		}
	}
	p := raw(0, 0, list()[:1])
	p[10]++
	refuses(t, "a wrong sum", p, api.ErrSum)
	refuses(t, "a wrong sum, and incomplete", p[:len(p)-1], api.ErrForm)
	p[1]++
	refuses(t, "a wrong sum, and a wrong kind", p, api.ErrForm)
	refuses(t, "a wrong sum, and garbage", append(raw(0, 0, list()), 1), api.ErrForm)
}

func TestP7_2Full(t *testing.T) {
	l := most()
	p := raw(0, 0, l)
	reads(t, "MaxBlocks", p, l)
	reads(t, "MaxBlocks and zeros", append(raw(0, 0, l), 0, 0), l)
	for _, more := range [][]byte{{0x80}, {1}, {0, 0xff}, {0x80, 3, 1}, sealed(head(0)), sealed(l[0])} {
		reads(t, "MaxBlocks and more", append(raw(0, 0, l), more...), l)
		refuses(t, "one less and more", append(raw(0, 0, l[:api.MaxBlocks-1]), more...), api.ErrForm)
	}
	p[len(p)-1]++
	refuses(t, "a wrong sum in the last", p, api.ErrSum)
}

func TestP7_2LongFile(t *testing.T) {
	l := list(0xffff)
	p := raw(1, 0, l)
	reads(t, "the longest file", p, l)
	refuses(t, "a byte less", p[:len(p)-1], api.ErrForm)
}

// TestP7_2Back: what is laid is read back (P5), whatever the files are, and with zeros up to the end of the disk.
func TestP7_2Back(t *testing.T) {
	r := rand.New(rand.NewSource(7))
	for range 200 {
		var files [][]block.Block
		for range r.Intn(6) {
			data := make([]byte, r.Intn(400))
			r.Read(data)
			files = append(files, block.File(byte(r.Int()), byte(r.Int()), "N", uint16(r.Int()), byte(r.Int()), data))
		}
		l := block.Disk("S", byte(r.Int()), files...)
		l = l[:r.Intn(len(l)+1)]
		p, ok := Lay(l)
		if !ok {
			t.Fatal(len(l))
		}
		reads(t, "laid", p, l)
		reads(t, "laid, and zeros", append(p, make([]byte, api.Quick-len(p))...), l)
	}
}

func TestMemoryOfSides(t *testing.T) {
	l := append(make([]block.Block, 0, 16), list(3, 20)...)
	kept := deep(l)
	p, _ := Lay(l)
	q := bytes.Clone(p)
	Places(l)
	Full(l)
	if !block.Same(l, kept) || !block.Same(l[6:16], make([]block.Block, 10)) {
		t.Error("an argument is changed")
	}
	got, _ := Read(p)
	if !bytes.Equal(p, q) {
		t.Error("Read changes its argument")
	}
	for i := range got {
		want := deep(got[i+1:])
		clear(got[i].Data[:cap(got[i].Data)])
		if !block.Same(got[i+1:], want) || !bytes.Equal(p, q) {
			t.Error("Read shares memory")
		}
	}
	got, _ = Read(p)
	clear(p[:cap(p)])
	if !block.Same(got, kept) || !block.Same(l, kept) {
		t.Error("Read or Lay keeps its argument")
	}
	if again, _ := Lay(l); !bytes.Equal(again, q) {
		t.Error("Lay answers the same memory")
	}
	places := Places(l)
	clear(places[:cap(places)])
	if Places(l)[0] != 3501 {
		t.Error("Places answers the same memory")
	}
}
