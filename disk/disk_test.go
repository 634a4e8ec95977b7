package disk

import (
	"bytes"
	"math/rand"
	"testing"

	"kotatsu/api"
	"kotatsu/block"
	"kotatsu/seal"
)

// some returns n bytes of all values, others for each seed.
func some(n, seed int) []byte {
	p := make([]byte, n)
	for i := range p {
		p[i] = byte(i*7 + i>>8 + seed)
	}
	return p
}

// size is the length of a side, by the words of the document.
func size(form byte) int {
	if form == 3 {
		return 65536
	}
	return 65500
}

// set returns a set of n sides with bytes that are no blocks.
func set(form byte, n int) Set {
	s := Set{Form: form}
	for i := range n {
		s.Sides = append(s.Sides, some(size(form), i+5))
	}
	return s
}

// deep returns a copy of s that shares no memory with it.
func deep(s Set) Set {
	c := Set{Form: s.Form}
	for _, p := range s.Sides {
		c.Sides = append(c.Sides, bytes.Clone(p))
	}
	return c
}

// image returns the image of a valid set, by the words of the document.
func image(s Set) []byte {
	var p []byte
	if s.Form == 2 {
		p = append([]byte("FDS\x1a"), byte(len(s.Sides)))
		p = append(p, make([]byte, 11)...)
	}
	for _, side := range s.Sides {
		p = append(p, side...)
	}
	return p
}

func TestP6_1Forms(t *testing.T) {
	if Plain != 1 || Headed != 2 || Quick != 3 {
		t.Error(Plain, Headed, Quick)
	}
}

func TestP6_1Right(t *testing.T) {
	for form := range 256 {
		for n := range 11 {
			s := set(byte(form), n)
			if s.Right() != (form >= 1 && form <= 3 && n >= 1 && n <= 8) {
				t.Errorf("form %d, %d sides", form, n)
			}
			if form > 5 && form < 250 {
				break
			}
		}
	}
}

func TestP6_1RightSizes(t *testing.T) {
	for form := byte(1); form <= 3; form++ {
		for i := range 3 {
			for _, n := range []int{0, 1, 65499, 65500, 65501, 65535, 65536, 65537, 2 * 65500} {
				s := set(form, 3)
				s.Sides[i] = make([]byte, n)
				if s.Right() != (n == size(form)) {
					t.Errorf("form %d, side %d of %d bytes", form, i, n)
				}
				if !s.Right() && s.Bytes() != nil {
					t.Errorf("form %d, side %d of %d bytes has an image", form, i, n)
				}
			}
		}
	}
	if (Set{}).Right() || (Set{Form: Plain, Sides: [][]byte{nil}}).Right() {
		t.Error("nothing")
	}
}

func TestP6_1Bytes(t *testing.T) {
	for form := byte(1); form <= 3; form++ {
		for n := 1; n <= 8; n++ {
			s := set(form, n)
			if !bytes.Equal(s.Bytes(), image(s)) {
				t.Errorf("form %d, %d sides", form, n)
			}
		}
	}
	p := set(Headed, 2).Bytes()
	if len(p) != 16+2*65500 || string(p[:16]) != "FDS\x1a\x02\x00\x00\x00\x00\x00\x00\x00\x00\x00\x00\x00" || p[16] != 5 || p[16+65500] != 6 {
		t.Error(len(p), p[:17])
	}
	for _, s := range []Set{{}, set(0, 1), set(4, 1), set(255, 2), set(Plain, 0), set(Headed, 0), set(Quick, 0), set(Plain, 9), set(Headed, 9), set(Quick, 9)} {
		if s.Bytes() != nil {
			t.Errorf("form %d, %d sides", s.Form, len(s.Sides))
		}
	}
}

func TestP6_1Parse(t *testing.T) {
	for form := byte(1); form <= 3; form++ {
		for n := 1; n <= 8; n++ {
			s := set(form, n)
			if got, e := Parse(image(s)); e != api.OK || !Same(got, s) {
				t.Errorf("form %d, %d sides: error %d", form, n, e)
			}
		}
	}
	if s, e := Parse(make([]byte, 65500)); e != api.OK || s.Form != Plain || len(s.Sides) != 1 {
		t.Error(e)
	}
	if s, e := Parse(make([]byte, 65536)); e != api.OK || s.Form != Quick || len(s.Sides) != 1 {
		t.Error(e)
	}
}

// refused fails if Parse does not answer ErrForm, and nothing beside it.
func refused(t *testing.T, what string, p []byte) {
	t.Helper()
	if s, e := Parse(p); e != api.ErrForm || s.Form != 0 || s.Sides != nil {
		t.Errorf("%s: form %d, %d sides, error %d", what, s.Form, len(s.Sides), e)
	}
}

func TestP6_1ParseWrong(t *testing.T) {
	refused(t, "nil", nil)
	refused(t, "empty", []byte{})
	for n := 1; n < 40; n++ {
		refused(t, "zeros", make([]byte, n))
	}
	for form := byte(1); form <= 3; form++ {
		for _, n := range []int{1, 2, 8} {
			p := image(set(form, n))
			refused(t, "a byte less", p[:len(p)-1])
			refused(t, "a byte more", append(p, 0))
			refused(t, "a header more", append(p, make([]byte, 16)...))
		}
		refused(t, "nine sides", image(set(form, 9)))
		refused(t, "512 sides", make([]byte, 512*size(form)))
	}
	refused(t, "sides of both sizes", make([]byte, 65500+65536))
}

func TestP6_1ParseHeader(t *testing.T) {
	p := image(set(Headed, 2))
	for i := 4; i < 16; i++ {
		for b := 1; b < 256; b++ {
			p[i] ^= byte(b)
			refused(t, "another header", p)
			p[i] ^= byte(b)
		}
	}
	for n := range 17 {
		refused(t, "the header alone", p[:n])
	}
	p[4] = 0
	refused(t, "no sides", p[:16])
	for n := range 256 {
		p[4] = byte(n)
		if _, e := Parse(p); (e == api.OK) != (n == 2) {
			t.Errorf("%d sides: error %d", n, e)
		}
	}
	p = image(set(Headed, 9))
	refused(t, "nine sides", p)
	p[4] = 8
	refused(t, "nine for eight", p)
	for i, b := range []byte("FDS\x1a") {
		p = image(set(Headed, 1))
		p[i] = b + 1
		refused(t, "not the mark", p)
	}
}

// TestP6_1ParseOrder: an image with the mark is Headed, whatever its size says.
func TestP6_1ParseOrder(t *testing.T) {
	for _, form := range []byte{Plain, Quick} {
		s := set(form, 2)
		copy(s.Sides[0], "FDS\x1a\x02")
		refused(t, "sides that begin with the mark", image(s))
		s.Sides[0][3] = 0x1b
		if got, e := Parse(image(s)); e != api.OK || !Same(got, s) {
			t.Errorf("form %d: error %d", form, e)
		}
	}
}

// list returns a valid list with files of those lengths.
func list(files ...int) []block.Block {
	var fs [][]block.Block
	for i, n := range files {
		fs = append(fs, block.File(byte(i), 9, "FILE", 0x6000, 1, some(n, i)))
	}
	return block.Disk("*KOTATSU*", 1, fs...)
}

// sealed returns the bytes of l with their sums, by the words of the document.
func sealed(l []block.Block) []byte {
	var p []byte
	for _, b := range l {
		q := append([]byte{b.Kind}, b.Data...)
		sum := seal.Short(q)
		p = append(append(p, q...), byte(sum&0xff), byte(sum>>8))
	}
	return p
}

// padded returns p with zeros up to size.
func padded(p []byte, size int) []byte {
	return append(p, make([]byte, size-len(p))...)
}

func TestP6_2Wrap(t *testing.T) {
	for _, l := range [][]block.Block{
		nil, list()[:1], list(), list(0), list(5)[:3], list(5), list(5, 0, 1000), list(make([]int, 255)...),
		list(65536 - 58 - 17 - 8), // one file that leaves no byte free
	} {
		p, ok := Wrap(l)
		if !ok || !bytes.Equal(p, padded(sealed(l), 65536)) {
			t.Errorf("%d blocks: %d bytes, %t", len(l), len(p), ok)
		}
	}
}

func TestP6_2WrapWrong(t *testing.T) {
	short := list(5)
	short[3].Data = short[3].Data[1:]
	for what, l := range map[string][]block.Block{
		"a byte too much":     list(65536 - 58 - 17 - 8 + 1),
		"no room for a sum":   list(65536 - 58 - 17 - 1),
		"fits without sums":   list(65536 - 58 - 17),
		"longest file":        list(0xffff),
		"two long files":      list(40000, 40000),
		"invalid":             list(5)[1:],
		"short file":          short,
		"more than MaxBlocks": list(make([]int, 256)...),
	} {
		if p, ok := Wrap(l); p != nil || ok {
			t.Errorf("%s: %d bytes, %t", what, len(p), ok)
		}
	}
}

// unwrapped fails if Unwrap of p answers other than l, or that error alone.
func unwrapped(t *testing.T, what string, p []byte, l []block.Block, want api.Errno) {
	t.Helper()
	got, e := Unwrap(p)
	if want != api.OK {
		l = nil
	}
	if e != want || !block.Same(got, l) {
		t.Errorf("%s: %d blocks, error %d, want %d blocks, error %d", what, len(got), e, len(l), want)
	}
}

func TestP6_2Unwrap(t *testing.T) {
	unwrapped(t, "nil", nil, nil, api.OK)
	unwrapped(t, "empty", []byte{}, nil, api.OK)
	unwrapped(t, "a zero", []byte{0}, nil, api.OK)
	for _, l := range [][]block.Block{list(), list(0), list(5, 0, 300), list(make([]int, 255)...), list(0xffff, 0xffff)} {
		for n := range len(l) + 1 {
			p := sealed(l[:n])
			if n > 20 && n < len(l)-3 {
				continue
			}
			unwrapped(t, "to the end", p, l[:n], api.OK)
			unwrapped(t, "and a zero", append(p, 0), l[:n], api.OK)
			unwrapped(t, "and zeros", append(p, make([]byte, 999)...), l[:n], api.OK)
		}
	}
}

func TestP6_2UnwrapKinds(t *testing.T) {
	l := list(5, 20)
	for i := range l {
		at := len(sealed(l[:i]))
		for kind := range 256 {
			p := sealed(l)
			p[at] = byte(kind)
			if byte(kind) == l[i].Kind {
				unwrapped(t, "as it was", p, l, api.OK)
			} else {
				unwrapped(t, "another kind", p, l[:i], api.OK)
			}
		}
	}
}

func TestP6_2UnwrapCut(t *testing.T) {
	l := list(5, 0, 20)
	p := sealed(l)
	n := 0
	for cut := range len(p) {
		for n < len(l) && len(sealed(l[:n+1])) <= cut {
			n++
		}
		want := api.ErrForm
		if cut == len(sealed(l[:n])) {
			want = api.OK
		}
		unwrapped(t, "cut", p[:cut], l[:n], want)
		unwrapped(t, "cut, more behind the cut", p[:cut:len(p)], l[:n], want)
	}
}

func TestP6_2UnwrapSums(t *testing.T) {
	l := list(5, 20)
	starts := map[int]int{}
	for i := range l {
		starts[len(sealed(l[:i]))] = i
	}
	head := len(sealed(l[:2]))
	for at := range sealed(l) {
		for bit := range 8 {
			p := padded(sealed(l), 1000)
			p[at] ^= 1 << bit
			if i, ok := starts[at]; ok {
				unwrapped(t, "a bit of a kind", p, l[:i], api.OK)
			} else {
				unwrapped(t, "a bit", p, nil, api.ErrSum)
			}
		}
	}
	p := sealed(l)
	p[head+14], p[head+15] = 0xff, 0xff // the length in the block itself is not believed while its sum is wrong
	unwrapped(t, "a wrong length", p, nil, api.ErrSum)
}

// TestP6_2UnwrapFirst: the first block that has an error tells it; a block that is incomplete has no wrong sum.
func TestP6_2UnwrapFirst(t *testing.T) {
	l := list(5, 20)
	p := sealed(l)
	p[3]++
	unwrapped(t, "first a sum, then cut", p[:len(p)-1], nil, api.ErrSum)
	p = sealed(l)
	p[len(p)-5]++
	unwrapped(t, "cut, and its bytes are wrong", p[:len(p)-1], nil, api.ErrForm)
	unwrapped(t, "a kind alone", []byte{1}, nil, api.ErrForm)
	long := append(list(), block.File(0, 0, "", 0, 0, make([]byte, 0xffff))[:1]...)
	p = append(sealed(long), 4)
	unwrapped(t, "a long file that is not there", padded(p, 65536), nil, api.ErrForm)
	unwrapped(t, "a long file of which nothing is there", padded(sealed(long), 65536), long, api.OK)
}

func TestP6_2UnwrapFull(t *testing.T) {
	l := list(make([]int, 255)...)
	p := sealed(l)
	more := sealed(list(1, 2))[len(sealed(list())):]
	unwrapped(t, "more than MaxBlocks", append(p, more...), l, api.OK)
	more[3]++
	unwrapped(t, "a wrong one behind MaxBlocks", append(p, more...), l, api.OK)
	unwrapped(t, "an incomplete one behind MaxBlocks", append(p, 3), l, api.OK)
}

func TestP6_2Back(t *testing.T) {
	r := rand.New(rand.NewSource(62))
	for range 100 {
		var files []int
		for range r.Intn(5) {
			files = append(files, r.Intn(3000))
		}
		l := list(files...)
		l = l[:r.Intn(len(l)+1)]
		p, ok := Wrap(l)
		if !ok {
			t.Fatal("Wrap")
		}
		unwrapped(t, "back", p, l, api.OK)
	}
}

// sides returns a set of that form whose sides have those blocks, not made by the package's To.
func sides(form byte, lists ...[]block.Block) Set {
	s := Set{Form: form}
	for _, l := range lists {
		if form == Quick {
			s.Sides = append(s.Sides, padded(sealed(l), 65536))
			continue
		}
		p, _ := block.Side(l, 65500)
		s.Sides = append(s.Sides, p)
	}
	return s
}

// turned fails if s in that form is other than want.
func turned(t *testing.T, what string, s Set, form byte, want Set) {
	t.Helper()
	got, e := s.To(form)
	if e != api.OK || !Same(got, want) {
		t.Errorf("%s: from %d to %d: form %d, %d sides, error %d", what, s.Form, form, got.Form, len(got.Sides), e)
	}
}

// failed fails if To does not answer that error, and nothing beside it.
func failed(t *testing.T, what string, s Set, form byte, want api.Errno) {
	t.Helper()
	if got, e := s.To(form); e != want || got.Form != 0 || got.Sides != nil {
		t.Errorf("%s: from %d to %d: form %d, %d sides, error %d, want %d", what, s.Form, form, got.Form, len(got.Sides), e, want)
	}
}

func TestP6_3AllForms(t *testing.T) {
	many := make([][]block.Block, 8)
	for i := range many {
		many[i] = list(i, 1000*i)
	}
	for _, lists := range [][][]block.Block{
		{nil}, {list()}, {list()[:1]}, {list(5)[:3]}, {list(5, 0, 300)}, {list(1), nil, list(2, 3)}, {list(make([]int, 255)...)}, many,
	} {
		for from := byte(1); from <= 3; from++ {
			for to := byte(1); to <= 3; to++ {
				turned(t, "blocks", sides(from, lists...), to, sides(to, lists...))
			}
		}
	}
}

// TestP6_3Unread: sides stay as they are, whatever they hold, where no blocks are read.
func TestP6_3Unread(t *testing.T) {
	for _, c := range [][2]byte{{1, 1}, {1, 2}, {2, 1}, {2, 2}, {3, 3}} {
		for _, n := range []int{1, 3, 8} {
			s := set(c[0], n)
			want := deep(s)
			want.Form = c[1]
			turned(t, "no blocks", s, c[1], want)
		}
	}
	s := sides(Quick, list(5))
	s.Sides[0][3]++
	turned(t, "a wrong sum", s, Quick, s)
	s = sides(Quick, append(list(), list(0xffff)[2:3]...))
	s.Sides[0][len(sealed(list()))+18] = 4
	turned(t, "an incomplete block", s, Quick, s)
}

// TestP6_3Rest: what stands behind the blocks is not written again.
func TestP6_3Rest(t *testing.T) {
	l := list(5)
	s := sides(Plain, l)
	s.Sides[0][block.Size(l)] = 9
	s.Sides[0][65499] = 8
	turned(t, "bytes behind the blocks", s, Quick, sides(Quick, l))
	s = sides(Quick, l)
	s.Sides[0][len(sealed(l))] = 9
	s.Sides[0][65535] = 8
	turned(t, "bytes behind the blocks", s, Headed, sides(Headed, l))
	turned(t, "no blocks", set(Plain, 2), Quick, sides(Quick, nil, nil))
	turned(t, "no blocks", set(Quick, 2), Plain, sides(Plain, nil, nil))
	l = append(list(), block.File(0, 0, "", 0, 0, make([]byte, 0xffff))[:1]...)
	turned(t, "a block that is not complete", sides(Plain, l), Quick, sides(Quick, l))
}

func TestP6_3Arg(t *testing.T) {
	for form := range 256 {
		if form < 1 || form > 3 {
			failed(t, "no form", set(Plain, 1), byte(form), api.ErrArg)
			failed(t, "of no form", set(byte(form), 1), Plain, api.ErrArg)
			failed(t, "of no form to its own", set(byte(form), 1), byte(form), api.ErrArg)
		}
	}
	for from := byte(1); from <= 3; from++ {
		for to := byte(1); to <= 3; to++ {
			failed(t, "no sides", set(from, 0), to, api.ErrArg)
			failed(t, "nine sides", set(from, 9), to, api.ErrArg)
			s := set(from, 2)
			s.Sides[1] = s.Sides[1][1:]
			failed(t, "a short side", s, to, api.ErrArg)
		}
	}
	s := sides(Quick, list(5))
	s.Sides[0][3]++
	failed(t, "a wrong sum, and no form", s, 4, api.ErrArg)
	s.Sides = append(s.Sides, nil)
	failed(t, "a wrong sum, and a short side", s, Plain, api.ErrArg)
}

// wrongSum spoils the second block of a side.
func wrongSum(s Set, side int) Set {
	s.Sides[side][59] ^= 0x80
	return s
}

// wrongForm makes a side whose last block is incomplete.
func wrongForm(s Set, side int) Set {
	l := append(list(), block.File(0, 0, "", 0, 0, make([]byte, 0xffff))[:1]...)
	s.Sides[side] = padded(append(sealed(l), 4), 65536)
	return s
}

func TestP6_3Unwrap(t *testing.T) {
	for _, to := range []byte{Plain, Headed} {
		for side := range 3 {
			failed(t, "a wrong sum", wrongSum(sides(Quick, list(5), list(6), list()), side), to, api.ErrSum)
			failed(t, "an incomplete block", wrongForm(sides(Quick, list(5), list(6), list()), side), to, api.ErrForm)
		}
		failed(t, "a sum, then a form", wrongForm(wrongSum(sides(Quick, list(5), list(6)), 0), 1), to, api.ErrSum)
		failed(t, "a form, then a sum", wrongForm(wrongSum(sides(Quick, list(5), list(6)), 1), 0), to, api.ErrForm)
	}
}

func TestP6_3FullFromQuick(t *testing.T) {
	fits, full := list(65500-58-17), list(65500-58-17+1)
	for _, to := range []byte{Plain, Headed} {
		turned(t, "no byte free", sides(Quick, list(), fits), to, sides(to, list(), fits))
		failed(t, "a byte too much", sides(Quick, list(), full), to, api.ErrFull)
		failed(t, "a byte too much first", sides(Quick, full, list()), to, api.ErrFull)
		failed(t, "full, then a wrong sum", wrongSum(sides(Quick, full, list(5)), 1), to, api.ErrSum)
		failed(t, "full, then an incomplete block", wrongForm(sides(Quick, full, list(5)), 1), to, api.ErrForm)
	}
}

func TestP6_3FullToQuick(t *testing.T) {
	small := make([]int, 9) // 20 blocks with the two first: 40 bytes of sums
	room := 65536 - 58 - 9*17 - 40
	small[8] = room
	fits := list(small...)
	small[8] = room + 1
	full := list(small...)
	for _, from := range []byte{Plain, Headed} {
		turned(t, "no byte free", sides(from, fits, list()), Quick, sides(Quick, fits, list()))
		failed(t, "a byte too much", sides(from, full, list()), Quick, api.ErrFull)
		failed(t, "a byte too much last", sides(from, list(), full), Quick, api.ErrFull)
	}
}

func TestSame(t *testing.T) {
	s := set(Plain, 3)
	if !Same(s, deep(s)) || !Same(Set{}, Set{Sides: [][]byte{}}) || !Same(Set{Sides: [][]byte{nil}}, Set{Sides: [][]byte{{}}}) {
		t.Error("equal")
	}
	c := deep(s)
	c.Form = Headed
	if Same(s, c) {
		t.Error("form")
	}
	for n := range 3 {
		c = deep(s)
		c.Sides = c.Sides[:n]
		if Same(s, c) || Same(c, s) {
			t.Errorf("%d sides", n)
		}
		for _, at := range []int{0, 30000, 65499} {
			c = deep(s)
			c.Sides[n][at]++
			if Same(s, c) {
				t.Errorf("byte %d of side %d", at, n)
			}
		}
		c = deep(s)
		c.Sides[n] = c.Sides[n][:65499]
		if Same(s, c) || Same(c, s) {
			t.Errorf("length of side %d", n)
		}
	}
	odd := Set{Form: 77, Sides: [][]byte{{1}, {2, 3}}} // sets that are not valid are equal too
	if !Same(odd, deep(odd)) || Same(odd, s) {
		t.Error("invalid sets")
	}
}

// TestMemorySets: what is answered shares no memory with what was given, nor with another slice of the same answer.
func TestMemorySets(t *testing.T) {
	p, _ := block.Side(list(5), 65500)
	s := Set{Form: Headed, Sides: [][]byte{p, p}}
	want := deep(s)
	f := s.Bytes()
	kept := bytes.Clone(f)
	x, _ := Parse(f)
	clear(x.Sides[0][:cap(x.Sides[0])])
	if !bytes.Equal(f, kept) || !bytes.Equal(x.Sides[1], p) {
		t.Error("Parse shares memory")
	}
	clear(f[:cap(f)])
	if !Same(s, want) {
		t.Error("Bytes shares memory")
	}
	for form := byte(1); form <= 3; form++ {
		for _, from := range []byte{Headed, Quick} {
			s := sides(from, list(5))
			s.Sides = append(make([][]byte, 0, 9), s.Sides[0], s.Sides[0])
			was, second := deep(s), sides(form, list(5)).Sides[0]
			got, e := s.To(form)
			clear(got.Sides[0][:cap(got.Sides[0])])
			if e != api.OK || !bytes.Equal(got.Sides[1], second) || !Same(s, was) || s.Sides[:3][2] != nil {
				t.Errorf("To(%d) shares memory", form)
			}
			got.Sides[0] = nil
			if !Same(s, was) {
				t.Errorf("To(%d) shares the list of sides", form)
			}
		}
	}
}

func TestMemoryWrap(t *testing.T) {
	l := list(5)
	p, _ := Wrap(l)
	kept := bytes.Clone(p)
	got, _ := Unwrap(p)
	clear(got[0].Data[:cap(got[0].Data)])
	if !bytes.Equal(p, kept) || !block.Same(got[1:], l[1:]) {
		t.Error("Unwrap shares memory")
	}
	got, _ = Unwrap(p)
	clear(p[:cap(p)])
	if !block.Same(got, l) || !block.Same(l, list(5)) {
		t.Error("Wrap shares memory, or Unwrap keeps it")
	}
}
