package scroll

import (
	"bytes"
	"math/rand"
	"slices"
	"testing"
)

func TestP3_3Apply(t *testing.T) {
	sides := [][]byte{[]byte("......"), []byte("--"), nil}
	for _, c := range []struct {
		what string
		l    []Write
		want [3]string
	}{
		{"nothing", nil, [3]string{"......", "--", ""}},
		{"one", []Write{write(0, 2, "ab")}, [3]string{"..ab..", "--", ""}},
		{"all of a side", []Write{write(1, 0, "ab")}, [3]string{"......", "ab", ""}},
		{"the last byte", []Write{write(0, 5, "a"), write(1, 1, "b")}, [3]string{".....a", "-b", ""}},
		{"in order", []Write{write(0, 0, "abc"), write(0, 1, "xy"), write(0, 2, "Z")}, [3]string{"axZ...", "--", ""}},
	} {
		got, ok := Apply(sides, c.l)
		if !ok || len(got) != 3 || string(got[0]) != c.want[0] || string(got[1]) != c.want[1] || string(got[2]) != c.want[2] {
			t.Errorf("%s: %q %v", c.what, got, ok)
		}
	}
	if got, ok := Apply(nil, nil); !ok || len(got) != 0 {
		t.Error(got, ok)
	}
}

func TestP3_3ApplyWide(t *testing.T) {
	full := make([]byte, 65536)
	w := Write{7, 61440, some(4096)}
	sides := make([][]byte, 9)
	for i := range sides {
		sides[i] = full
	}
	sides[8] = make([]byte, 70000)
	got, ok := Apply(sides, []Write{w})
	if !ok || len(got) != 9 || !bytes.Equal(got[7][61440:], some(4096)) || !bytes.Equal(got[6], full) || !bytes.Equal(got[8], sides[8]) {
		t.Error(ok, len(got))
	}
}

func TestP3_3ApplyWrong(t *testing.T) {
	long := [][]byte{make([]byte, 70000), make([]byte, 2), nil}
	for range 6 {
		long = append(long, make([]byte, 70000))
	}
	right := write(0, 0, "a")
	for _, c := range []struct {
		what string
		w    Write
	}{
		{"no data", write(0, 0, "")},
		{"too much data", Write{0, 0, some(4097)}},
		{"a side too high", write(8, 0, "a")},
		{"the highest side", write(255, 0, "a")},
		{"an offset too high", write(0, 65536, "a")},
		{"too far for any side", write(0, 65535, "ab")},
		{"behind the side", write(1, 2, "a")},
		{"over the side's end", write(1, 1, "ab")},
		{"longer than the side", write(1, 0, "abc")},
		{"on an empty side", write(2, 0, "a")},
		{"the highest offset", write(0, 1<<32-1, "a")},
		{"an end that wraps round", write(1, 1<<32-1, "ab")},
	} {
		for _, l := range [][]Write{{c.w}, {right, c.w}, {c.w, right}} {
			if got, ok := Apply(long, l); ok || got != nil {
				t.Errorf("%s: %v", c.what, ok)
			}
		}
	}
	for _, sides := range [][][]byte{nil, {}, {{1}}} {
		if got, ok := Apply(sides, []Write{write(1, 0, "a")}); ok || got != nil {
			t.Error("no such side", got, ok)
		}
	}
	if got, ok := Apply(nil, []Write{right}); ok || got != nil {
		t.Error("no sides", got, ok)
	}
	if !bytes.Equal(long[0], make([]byte, 70000)) {
		t.Error("the argument is changed")
	}
}

// merges fails if Merge does not answer these writes.
func merges(t *testing.T, what string, l []Write, want ...Write) {
	t.Helper()
	if got := Merge(l); !slices.EqualFunc(got, want, sameWrite) {
		t.Errorf("%s: %v, want %v", what, got, want)
	}
}

func TestP3_3Merge(t *testing.T) {
	a := write(0, 1, "ab")
	merges(t, "nil", nil)
	merges(t, "one", []Write{a}, a)
	merges(t, "continued", []Write{a, write(0, 3, "c")}, write(0, 1, "abc"))
	merges(t, "continued twice", []Write{a, write(0, 3, "c"), write(0, 4, "de")}, write(0, 1, "abcde"))
	merges(t, "the end of the first of two", []Write{a, write(0, 3, "c"), write(0, 3, "d")}, write(0, 1, "abc"), write(0, 3, "d"))
	for _, b := range []Write{
		write(1, 3, "c"), write(0, 4, "c"), write(0, 2, "c"), write(0, 1, "ab"), write(0, 0, "c"), write(0, 3+1<<16, "c"), write(0, 3+1<<31, "c"),
	} {
		merges(t, "not continued", []Write{a, b}, a, b)
	}
	merges(t, "with another between", []Write{a, write(1, 0, "x"), write(0, 3, "c")}, a, write(1, 0, "x"), write(0, 3, "c"))
	merges(t, "ahead of it", []Write{write(0, 3, "c"), a}, write(0, 3, "c"), a)
	merges(t, "after a gap", []Write{a, write(0, 9, "c"), write(0, 10, "d")}, a, write(0, 9, "cd"))
}

func TestP3_3MergeLongest(t *testing.T) {
	p := some(4097)
	merges(t, "longest", []Write{{0, 5, p[:4095]}, {0, 4100, p[4095:4096]}}, Write{0, 5, p[:4096]})
	merges(t, "longer", []Write{{0, 5, p[:4095]}, {0, 4100, p[4095:4097]}}, Write{0, 5, p[:4095]}, Write{0, 4100, p[4095:4097]})
	merges(t, "the rest of it", []Write{{0, 5, p[:4096]}, {0, 4101, p[:1]}, {0, 4102, p[1:2]}}, Write{0, 5, p[:4096]}, Write{0, 4101, p[:2]})
	merges(t, "longest twice", []Write{{0, 0, p[:4096]}, {0, 4096, p[:4096]}}, Write{0, 0, p[:4096]}, Write{0, 4096, p[:4096]})
	var l []Write
	for i := range 9000 {
		l = append(l, Write{2, uint32(i), []byte{byte(i)}})
	}
	got := Merge(l)
	if len(got) != 3 || len(got[0].Data) != 4096 || got[1].At != 4096 || len(got[1].Data) != 4096 || got[2].At != 8192 || len(got[2].Data) != 808 {
		t.Error(len(got))
	}
}

// TestP3_3MergeWrong: invalid writes are merged by the same rule.
func TestP3_3MergeWrong(t *testing.T) {
	none := write(0, 3, "")
	merges(t, "an empty one behind", []Write{write(0, 1, "ab"), none}, write(0, 1, "ab"))
	merges(t, "an empty one ahead", []Write{none, write(0, 3, "c")}, write(0, 3, "c"))
	merges(t, "an empty one elsewhere", []Write{write(0, 0, "ab"), none}, write(0, 0, "ab"), none)
	long := Write{0, 0, some(4097)}
	merges(t, "a long one", []Write{long, write(0, 4097, "")}, long, write(0, 4097, ""))
	merges(t, "high sides", []Write{write(200, 70000, "a"), write(200, 70001, "b")}, write(200, 70000, "ab"))
	end := write(0, 1<<32-1, "a")
	merges(t, "an end that wraps round", []Write{end, write(0, 0, "b")}, end, write(0, 0, "b"))
}

// TestP3_3MergeKeeps: merged writes do what the writes do.
func TestP3_3MergeKeeps(t *testing.T) {
	r := rand.New(rand.NewSource(5))
	sides := [][]byte{make([]byte, 40), make([]byte, 40)}
	for range 3000 {
		var l []Write
		at := uint32(0)
		for range r.Intn(20) {
			if r.Intn(3) == 0 || at > 36 {
				at = uint32(r.Intn(36))
			}
			w := Write{byte(r.Intn(2)), at, some(40)[r.Intn(30):][:1+r.Intn(4)]}
			l = append(l, w)
			at += uint32(len(w.Data))
		}
		m := Merge(l)
		a, ok := Apply(sides, l)
		b, ok2 := Apply(sides, m)
		if !ok || !ok2 || !slices.EqualFunc(a, b, bytes.Equal) {
			t.Fatal(l, m)
		}
		for i := 1; i < len(m); i++ {
			if m[i-1].Side == m[i].Side && int(m[i-1].At)+len(m[i-1].Data) == int(m[i].At) {
				t.Fatal("not merged", m)
			}
		}
	}
}
