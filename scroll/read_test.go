package scroll

import (
	"bytes"
	"encoding/binary"
	"math/rand"
	"slices"
	"testing"

	"kotatsu/api"
)

// reads fails if Read does not answer these groups, with the last mark that completed one ending at n.
func reads(t *testing.T, what string, p []byte, n int, want ...Group) {
	t.Helper()
	l, got, e := Read(p)
	if e != api.OK || got != n || !slices.EqualFunc(l, want, Same) {
		t.Errorf("%s: %v, %d, error %d, want %v, %d", what, l, got, e, want, n)
	}
}

// refused fails if Read does not answer that error, and nothing beside it.
func refused(t *testing.T, what string, p []byte, want api.Errno) {
	t.Helper()
	if l, n, e := Read(p); l != nil || n != 0 || e != want {
		t.Errorf("%s: %v, %d, error %d, want %d", what, l, n, e, want)
	}
}

func three() (a, b, c Group) {
	a = group(4, write(0, 1, "ab"), write(1, 0, "c"))
	b = group(5, write(7, 65535, "z"))
	c = group(1<<32-1, Write{0, 61440, some(4096)}, write(0, 0, "y"), write(0, 0, "x"))
	return a, b, c
}

func TestP3_2Read(t *testing.T) {
	a, b, c := three()
	for _, l := range [][]Group{{a}, {b}, {c}, {a, b}, {a, b, c}, {c, b, a}, {a, a, a}, {b, b}} {
		var p []byte
		for _, g := range l {
			p = append(p, whole(g)...)
		}
		reads(t, "whole", p, len(p), l...)
	}
	reads(t, "nil", nil, 0)
	reads(t, "empty", []byte{}, 0)
	reads(t, "number 0", whole(group(0, write(0, 0, "q"))), len(whole(b)), group(0, write(0, 0, "q")))
}

// TestP3_2Cut: wherever the input is cut, the groups that are complete are there.
func TestP3_2Cut(t *testing.T) {
	a, b, _ := three()
	first := len(whole(a))
	p := join(whole(a), whole(b))
	for n := range p {
		if n < first {
			reads(t, "cut in the first", p[:n], 0)
		} else {
			reads(t, "cut in the second", p[:n], first, a)
		}
	}
	reads(t, "a length above the greatest", join(whole(a), []byte{1, 0, 0, 1, 0, 0, 0, 0}, whole(b)), first, a)
	reads(t, "a length beyond the end", join(whole(a), []byte{255, 0, 0, 0, 1, 2, 3, 4}, whole(b)), first, a)
}

func TestP3_2Incomplete(t *testing.T) {
	a, b, c := three()
	r0, r1 := a.Writes[0].Bytes(4, 0), a.Writes[1].Bytes(4, 1)
	rec := func(group uint32, i int) []byte { return write(0, 3, "v").Bytes(group, i) }
	after := whole(b)
	for _, x := range []struct {
		what string
		p    []byte
	}{
		{"nothing", nil},
		{"a record alone", rec(9, 0)},
		{"a record of the next group's number alone", rec(5, 0)},
		{"records without a mark", join(r0, r1)},
		{"a mark alone", Mark(4, 2)},
		{"a mark of nothing", Mark(4, 0)},
		{"a mark of nothing for number 0", Mark(0, 0)},
		{"a mark of the next group", Mark(5, 1)},
		{"a mark for fewer", join(r0, r1, Mark(4, 1))},
		{"a mark for more", join(r0, r1, Mark(4, 3))},
		{"a mark with the count's low byte", join(r0, r1, Mark(4, 2+256))},
		{"a mark with the count's low word", join(r0, r1, Mark(4, 2+1<<16))},
		{"a mark for none", join(r0, Mark(4, 0))},
		{"a mark of another number", join(r0, r1, Mark(3, 2))},
		{"a mark of a number like it", join(r0, r1, Mark(4+1<<24, 2))},
		{"a wrong mark and then the right one", join(r0, r1, Mark(4, 1), Mark(4, 2))},
		{"a mark of another and then the right one", join(r0, r1, Mark(6, 2), Mark(4, 2))},
		{"begun with 1", join(r1, Mark(4, 1))},
		{"begun with 1, marked as 2", join(r1, Mark(4, 2))},
		{"begun with 1 for number 0", join(rec(0, 1), Mark(0, 1))},
		{"an index left out", join(r0, rec(4, 2), Mark(4, 2))},
		{"an index left out, and then given", join(r0, rec(4, 2), r1, Mark(4, 2))},
		{"an index left out, the count with it", join(r0, rec(4, 2), Mark(4, 3))},
		{"an index twice", join(r0, r1, rec(4, 1), Mark(4, 2))},
		{"an index twice, the count with it", join(r0, r1, rec(4, 1), Mark(4, 3))},
		{"indices in the wrong order", join(r1, r0, Mark(4, 2))},
		{"an index with the low byte", join(r0, rec(4, 257), Mark(4, 2))},
		{"an index with the low word", join(r0, rec(4, 1+1<<16), Mark(4, 2))},
		{"the greatest index", join(r0, rec(4, -1), Mark(4, 2))},
		{"a record of another number between", join(r0, rec(3, 7), r1, Mark(4, 2))},
		{"another number that continues the index", join(r0, rec(3, 1), Mark(4, 2))},
		{"the same, marked by the other number", join(r0, rec(3, 1), Mark(3, 2))},
		{"the same, marked by the other number as 1", join(r0, rec(3, 1), Mark(3, 1))},
		{"the same, continued", join(r0, rec(3, 1), rec(3, 2), Mark(3, 3))},
		{"another number from 1 on, marked by the first", join(r0, rec(3, 1), rec(4, 1), Mark(4, 2))},
		{"a number like it", join(r0, rec(4+1<<24, 1), Mark(4, 2))},
	} {
		reads(t, x.what+", alone", x.p, 0)
		p := join(x.p, after)
		reads(t, x.what+", ahead", p, len(p), b)
		p = join(whole(c), x.p)
		reads(t, x.what+", behind", p, len(whole(c)), c)
		p = join(whole(c), x.p, after)
		reads(t, x.what+", between", p, len(p), c, b)
	}
}

// TestP3_2Begins: what begins a group anew after one that was begun.
func TestP3_2Begins(t *testing.T) {
	rec := func(group uint32, i int, data string) []byte { return write(0, 3, data).Bytes(group, i) }
	p := join(rec(4, 0, "a"), rec(4, 0, "b"), Mark(4, 1))
	reads(t, "index 0 of the same number", p, len(p), group(4, write(0, 3, "b")))
	p = join(rec(4, 0, "a"), rec(4, 1, "b"), rec(4, 0, "c"), rec(4, 1, "d"), Mark(4, 2))
	reads(t, "index 0 after two", p, len(p), group(4, write(0, 3, "c"), write(0, 3, "d")))
	p = join(rec(4, 0, "a"), rec(5, 0, "b"), Mark(5, 1))
	reads(t, "index 0 of another number", p, len(p), group(5, write(0, 3, "b")))
	p = join(rec(4, 0, "a"), rec(4, 3, "b"), rec(4, 0, "c"), Mark(4, 1))
	reads(t, "index 0 after one out of order", p, len(p), group(4, write(0, 3, "c")))
	p = join(rec(4, 0, "a"), Mark(4, 1), rec(4, 1, "b"), Mark(4, 2))
	reads(t, "a complete group is over", p, len(rec(4, 0, "a"))+17, group(4, write(0, 3, "a")))
	p = join(rec(4, 0, "a"), Mark(4, 1), Mark(4, 1))
	reads(t, "a mark twice", p, len(p)-17, group(4, write(0, 3, "a")))
}

func TestP3_2Sum(t *testing.T) {
	a, b, _ := three()
	first := len(whole(a))
	p := join(whole(a), whole(b))
	for i := range p {
		q := bytes.Clone(p)
		q[i] ^= 0x10
		_, _, e := Read(q)
		if e != api.ErrSum && e != api.OK {
			t.Errorf("byte %d: error %d", i, e)
		}
	}
	q := bytes.Clone(p)
	q[first-1]++
	refused(t, "a wrong sum in the first mark", q, api.ErrSum)
	q = bytes.Clone(p)
	q[len(q)-1]++
	refused(t, "a wrong sum in the last mark", q, api.ErrSum)
	refused(t, "zeros", make([]byte, 8), api.ErrSum)
	refused(t, "zeros behind", join(p, make([]byte, 9)), api.ErrSum)
	reads(t, "fewer zeros behind", join(p, make([]byte, 7)), len(p), a, b)
}

func TestP3_2Form(t *testing.T) {
	a, b, _ := three()
	word := func(n uint32) []byte { return binary.LittleEndian.AppendUint32(nil, n) }
	record := func(side byte, at uint32, data []byte) []byte {
		return framed(join([]byte{1}, word(0), word(0), []byte{side}, word(at), data))
	}
	for _, x := range []struct {
		what string
		p    []byte
	}{
		{"nothing", framed(nil)},
		{"kind 0", framed(make([]byte, 9))},
		{"kind 3", framed([]byte{3, 0, 0, 0, 0, 0, 0, 0, 0})},
		{"kind 0 as a record", framed(make([]byte, 15))},
		{"kind 2 as a record", framed(join([]byte{2}, make([]byte, 14)))},
		{"kind 1 as a mark", framed([]byte{1, 0, 0, 0, 0, 0, 0, 0, 0})},
		{"kind 1 alone", framed([]byte{1})},
		{"kind 2 alone", framed([]byte{2})},
		{"a short mark", framed([]byte{2, 0, 0, 0, 0, 0, 0, 0})},
		{"a long mark", framed([]byte{2, 0, 0, 0, 0, 0, 0, 0, 0, 0})},
		{"a record without data", record(0, 0, nil)},
		{"a record cut in its offset", framed(join([]byte{1}, make([]byte, 12)))},
		{"a side too high", record(8, 0, []byte{1})},
		{"an offset too high", record(0, 65536, []byte{1})},
		{"an offset with the low word", record(0, 1<<16, []byte{1})},
		{"too far", record(0, 65535, []byte{1, 2})},
		{"too long", record(0, 0, some(4097))},
	} {
		refused(t, x.what, x.p, api.ErrForm)
		refused(t, x.what+", ahead", join(x.p, whole(a)), api.ErrForm)
		refused(t, x.what+", behind", join(whole(a), x.p), api.ErrForm)
		refused(t, x.what+", within", join(a.Writes[0].Bytes(4, 0), x.p), api.ErrForm)
	}
	longest := record(7, 61440, some(4096))
	reads(t, "longest", join(longest, Mark(0, 1)), len(longest)+17, group(0, Write{7, 61440, some(4096)}))
	bad, torn := framed([]byte{3}), whole(b)
	torn[len(torn)-1]++
	refused(t, "a form and then a sum", join(bad, torn), api.ErrForm)
	refused(t, "a sum and then a form", join(torn, bad), api.ErrSum)
	cut := join(whole(a), []byte{255, 255, 255, 255, 0, 0, 0, 0}, bad, torn)
	reads(t, "what follows an incomplete frame", cut, len(whole(a)), a)
}

// slowRead finds the groups by trying each frame as the first of one.
func slowRead(frames [][]byte) ([]Group, int) {
	var l []Group
	at, end := 0, 0
	for i := 0; i < len(frames); i++ {
		at += len(frames[i])
		g, n := groupAt(frames[i:])
		if n == 0 {
			continue
		}
		for _, f := range frames[i+1 : i+n] {
			at += len(f)
		}
		l, end, i = append(l, g), at, i+n-1
	}
	return l, end
}

// groupAt returns the group that is complete at the beginning of frames, and the number of its frames.
func groupAt(frames [][]byte) (Group, int) {
	var g Group
	for n, f := range frames {
		c := f[8:]
		number, index := binary.LittleEndian.Uint32(c[1:]), binary.LittleEndian.Uint32(c[5:])
		if n == 0 {
			g.Number = number
		}
		if number != g.Number || index != uint32(n) {
			break
		}
		if c[0] == 2 {
			if n == 0 {
				break
			}
			return g, n + 1
		}
		g.Writes = append(g.Writes, Write{c[9], binary.LittleEndian.Uint32(c[10:]), c[14:]})
	}
	return Group{}, 0
}

func TestP3_2Model(t *testing.T) {
	r := rand.New(rand.NewSource(3))
	complete := 0
	for range 20000 {
		var frames [][]byte
		for range r.Intn(12) {
			number, index := uint32(r.Intn(2)), r.Intn(3)
			if r.Intn(3) == 0 {
				frames = append(frames, Mark(number, index))
			} else {
				frames = append(frames, write(byte(r.Intn(8)), uint32(r.Intn(100)), "m").Bytes(number, index))
			}
		}
		want, end := slowRead(frames)
		complete += len(want)
		reads(t, "model", join(frames...), end, want...)
	}
	if complete < 1000 {
		t.Error("only", complete)
	}
}
