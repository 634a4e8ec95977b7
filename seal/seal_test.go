package seal

import (
	"bytes"
	"hash/crc32"
	"testing"

	"kotatsu/api"
)

// some returns n bytes of all values.
func some(n int) []byte {
	p := make([]byte, n)
	for i := range p {
		p[i] = byte(i*7 + i>>8)
	}
	return p
}

func TestP2_1Long(t *testing.T) {
	if n := Long([]byte("123456789")); n != 0xcbf43926 {
		t.Errorf("%x", n)
	}
	if Long(nil) != 0 || Long([]byte{}) != 0 {
		t.Error("nothing")
	}
	for b := range 256 {
		if p := []byte{byte(b)}; Long(p) != crc32.ChecksumIEEE(p) {
			t.Errorf("%x: %x", b, Long(p))
		}
	}
	for _, n := range []int{2, 3, 4, 255, 256, 4096, 65536} {
		if p := some(n); Long(p) != crc32.ChecksumIEEE(p) {
			t.Error(n)
		}
	}
}

func TestP2_1Step(t *testing.T) {
	for _, c := range []struct {
		sum  uint16
		b    byte
		want uint16
	}{
		{0, 0, 0},
		{0, 1, 0x0100},
		{0, 0x80, 0x8000},
		{0, 0xff, 0xff00},
		{0x8000, 0, 0x0080},
		{0x0100, 0, 0x0001},
		{0x0080, 0, 0x8408},
		{0x0080, 0x80, 0x0408},
		{0x0001, 0, 0x1189},
		{0xffff, 0xff, slowStep(0xffff, 0xff)},
	} {
		if got := Step(c.sum, c.b); got != c.want {
			t.Errorf("Step(%x, %x) is %x, want %x", c.sum, c.b, got, c.want)
		}
	}
	for sum := range 1 << 16 {
		b := byte(sum*31 + 5)
		if Step(uint16(sum), b) != slowStep(uint16(sum), b) {
			t.Fatalf("%x %x", sum, b)
		}
	}
}

// slowStep goes by the words of the document, one bit after the other.
func slowStep(sum uint16, b byte) uint16 {
	for i := range 8 {
		out := sum%2 == 1
		sum /= 2
		if b>>i%2 == 1 {
			sum += 0x8000
		}
		if out {
			sum ^= 0x8408
		}
	}
	return sum
}

func TestP2_1Short(t *testing.T) {
	if n := Short(nil); n != 0x8408 {
		t.Errorf("%x", n)
	}
	for _, p := range [][]byte{{0}, {1}, {0xff}, []byte("123456789"), some(4096)} {
		sum := uint16(0x8000)
		for _, b := range append(bytes.Clone(p), 0, 0) {
			sum = slowStep(sum, b)
		}
		if Short(p) != sum {
			t.Errorf("%x: %x, want %x", p[0], Short(p), sum)
		}
	}
}

// TestP2_1ShortSeals: bytes followed by their sum lead the register to 0, as the drive's reader checks.
func TestP2_1ShortSeals(t *testing.T) {
	p := some(99)
	n := Short(p)
	sum := uint16(0x8000)
	for _, b := range append(p, byte(n), byte(n>>8)) {
		sum = Step(sum, b)
	}
	if sum != 0 {
		t.Errorf("%x", sum)
	}
}

func TestP2_2Frame(t *testing.T) {
	for _, n := range []int{0, 1, 2, 255, 256, 65537} {
		p := some(n)
		size := []byte{byte(n), byte(n >> 8), byte(n >> 16), byte(n >> 24)}
		sum := crc32.ChecksumIEEE(append(bytes.Clone(size), p...))
		want := append(size, byte(sum), byte(sum>>8), byte(sum>>16), byte(sum>>24))
		if want = append(want, p...); !bytes.Equal(Frame(p), want) {
			t.Error(n)
		}
	}
	if !bytes.Equal(Frame(nil), Frame([]byte{})) || len(Frame(nil)) != 8 {
		t.Error("nothing")
	}
}

func TestP2_2Next(t *testing.T) {
	for _, n := range []int{0, 1, 2, 255, 256, 65537} {
		f := Frame(some(n))
		for _, rest := range []string{"", "\x00", "more bytes behind it"} {
			p, k, e := Next(append(bytes.Clone(f), rest...))
			if !bytes.Equal(p, some(n)) || k != len(f) || e != api.OK {
				t.Error(n, k, e)
			}
		}
	}
}

// failed fails if Next does not answer that error, and nothing beside it.
func failed(t *testing.T, what string, f []byte, want api.Errno) {
	t.Helper()
	if p, n, e := Next(f); p != nil || n != 0 || e != want {
		t.Errorf("%s: %d bytes, %d, error %d, want %d", what, len(p), n, e, want)
	}
}

func TestP2_2NextWrong(t *testing.T) {
	failed(t, "nil", nil, api.ErrNone)
	failed(t, "empty", []byte{}, api.ErrNone)
	f := Frame([]byte("hello"))
	for n := 1; n < len(f); n++ {
		failed(t, "cut", f[:n], api.ErrForm)
	}
	for n := 1; n < 8; n++ {
		failed(t, "cut zeros", make([]byte, n), api.ErrForm)
	}
	for i := 4; i < len(f); i++ {
		for bit := range 8 {
			g := bytes.Clone(f)
			g[i] ^= 1 << bit
			failed(t, "one bit", g, api.ErrSum)
		}
	}
	g := bytes.Clone(f)
	g[0]--
	failed(t, "shorter", g, api.ErrSum)
	g[0] += 2
	failed(t, "longer", g, api.ErrForm)
	failed(t, "longer, but there", append(g, 0), api.ErrSum)
	failed(t, "greatest length", []byte{255, 255, 255, 255, 0, 0, 0, 0, 1}, api.ErrForm)
	failed(t, "length with the top bit", []byte{0, 0, 0, 128, 0, 0, 0, 0, 1}, api.ErrForm)
	failed(t, "zeros", make([]byte, 8), api.ErrSum)
}

func TestP2_2NextLongest(t *testing.T) {
	f := Frame(make([]byte, 1<<24))
	if p, n, e := Next(f); len(p) != 1<<24 || n != 1<<24+8 || e != api.OK {
		t.Error(len(p), n, e)
	}
	f = Frame(make([]byte, 1<<24+1))
	failed(t, "one more", f, api.ErrForm)
	f[9]++
	failed(t, "one more, and a wrong sum", f, api.ErrForm)
}

func TestMemory(t *testing.T) {
	back := []byte("hi there")
	f := Frame(back[:2])
	Long(back[:2])
	Short(back[:2])
	if string(back) != "hi there" {
		t.Errorf("%q", back)
	}
	clear(back)
	g := append(bytes.Clone(f), "rest"...)
	p, n, _ := Next(g)
	clear(p[:cap(p)])
	if q, m, e := Next(g); string(q) != "hi" || m != n || e != api.OK || string(g[n:]) != "rest" {
		t.Error(q, m, e, g)
	}
	clear(f[:cap(f)])
	if q, _, _ := Next(g); string(q) != "hi" {
		t.Error(q)
	}
}
