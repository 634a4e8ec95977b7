package shelf

import (
	"bytes"
	"encoding/binary"
	"hash/crc32"
	"math"
	"slices"
	"strings"
	"testing"

	"kotatsu/api"
	"kotatsu/host"
	"kotatsu/scroll"
)

const room = 1 << 24

func want(t *testing.T, what string, got, e api.Errno) {
	t.Helper()
	if got != e {
		t.Fatalf("%s: error %d, want %d", what, got, e)
	}
}

// sidesOf makes sides of strings.
func sidesOf(l ...string) [][]byte {
	var sides [][]byte
	for _, s := range l {
		sides = append(sides, []byte(s))
	}
	return sides
}

func sameSides(a, b [][]byte) bool {
	return slices.EqualFunc(a, b, bytes.Equal)
}

func write(side byte, at uint32, data string) scroll.Write {
	return scroll.Write{Side: side, At: at, Data: []byte(data)}
}

// made is a shelf on a new host.
func made(t *testing.T, top int, l ...string) *Shelf {
	t.Helper()
	s, e := Make(host.New(room), sidesOf(l...), top)
	want(t, "make", e, api.OK)
	return s
}

// puts writes on a shelf, which must take them.
func puts(t *testing.T, s *Shelf, l ...scroll.Write) {
	t.Helper()
	for _, w := range l {
		want(t, "write", s.Write(w), api.OK)
	}
}

// holds fails if a file has other contents than these, joined.
func holds(t *testing.T, what string, h *host.Host, name string, l ...[]byte) {
	t.Helper()
	p, e := h.Copy().Read(name)
	want(t, what+": read "+name, e, api.OK)
	if !bytes.Equal(p, slices.Concat(l...)) {
		t.Fatalf("%s: %s has\n%x, want\n%x", what, name, p, slices.Concat(l...))
	}
}

func names(t *testing.T, what string, h *host.Host, l ...string) {
	t.Helper()
	if got := h.Names(); !slices.Equal(got, l) {
		t.Fatalf("%s: files %q, want %q", what, got, l)
	}
}

// looks fails if a shelf answers otherwise than this.
func looks(t *testing.T, what string, s *Shelf, gen uint32, log, pending int, safe [][]byte) {
	t.Helper()
	if s.Gen() != gen || s.Log() != log || s.Pending() != pending || !sameSides(s.Safe(), safe) {
		t.Fatalf("%s: generation %d, log %d, pending %d, safe %q; want %d, %d, %d, %q", what, s.Gen(), s.Log(), s.Pending(), s.Safe(), gen, log, pending, safe)
	}
	if pending == 0 && !sameSides(s.Sides(), safe) {
		t.Fatalf("%s: sides %q, want %q", what, s.Sides(), safe)
	}
}

// groupBytes is a group as the log has it.
func groupBytes(number uint32, l ...scroll.Write) []byte {
	return slices.Concat(scroll.Bytes(scroll.Group{Number: number, Writes: l})...)
}

// framed is a frame, made without package seal.
func framed(p []byte) []byte {
	size := binary.LittleEndian.AppendUint32(nil, uint32(len(p)))
	sum := crc32.ChecksumIEEE(append(bytes.Clone(size), p...))
	return append(binary.LittleEndian.AppendUint32(size, sum), p...)
}

// calls is how many calls that change something, and how many in all, f makes of h.
func calls(h *host.Host, f func()) (int, int) {
	const many = 1000
	if h == nil {
		f()
		return 0, 0
	}
	h.Arm(many)
	h.Fault(many)
	f()
	all, changes := many, many
	for probe := h.Copy(); ; all-- {
		if _, e := probe.Size("?"); e == api.ErrIO {
			break
		}
	}
	h.Fault(-1)
	for probe := h.Copy(); probe.Sync("?") != api.ErrOff; {
		changes--
	}
	h.Arm(-1)
	return changes, all
}

func TestP4_1Base(t *testing.T) {
	for _, c := range []struct {
		gen   uint32
		sides [][]byte
		want  []byte
	}{
		{1, sidesOf("abc"), []byte{1, 0, 0, 0, 1, 3, 0, 0, 0, 'a', 'b', 'c'}},
		{0x12345678, sidesOf("", "x", ""), []byte{0x78, 0x56, 0x34, 0x12, 3, 0, 0, 0, 0, 1, 0, 0, 0, 'x', 0, 0, 0, 0}},
		{math.MaxUint32, [][]byte{nil}, []byte{255, 255, 255, 255, 1, 0, 0, 0, 0}},
		{0, nil, []byte{0, 0, 0, 0, 0}},
		{0, [][]byte{make([]byte, 0x10203)}, append([]byte{0, 0, 0, 0, 1, 3, 2, 1, 0}, make([]byte, 0x10203)...)},
	} {
		if got := Base(c.gen, c.sides); !bytes.Equal(got, framed(c.want)) {
			t.Errorf("%d, %d sides: %x", c.gen, len(c.sides), got)
		}
	}
}

func TestP4_1LogName(t *testing.T) {
	for gen, name := range map[uint32]string{0: "log.0", 1: "log.1", 10: "log.10", 1 << 31: "log.2147483648", math.MaxUint32: "log.4294967295"} {
		if got := LogName(gen); got != name {
			t.Error(gen, got)
		}
	}
}

// TestP4_1Log: the groups have the numbers of the attempts, and a failed attempt keeps its own.
func TestP4_1Log(t *testing.T) {
	s := made(t, room, "........", "--")
	h := s.Host()
	a, b, c := write(0, 1, "a"), write(1, 0, "b"), write(0, 7, "c")
	puts(t, s, a, b)
	want(t, "first", s.Sync(), api.OK)
	log := groupBytes(0, a, b)
	holds(t, "first", h, "log.1", log)
	puts(t, s, c, a)
	h.Fault(1)
	want(t, "stopped behind a record", s.Sync(), api.ErrIO)
	log = append(log, c.Bytes(1, 0)...)
	holds(t, "stopped", h, "log.1", log)
	h.Fault(0)
	want(t, "stopped ahead of all", s.Sync(), api.ErrIO)
	holds(t, "nothing more", h, "log.1", log)
	h.Fault(3)
	want(t, "stopped at the host's Sync", s.Sync(), api.ErrIO)
	log = append(log, groupBytes(3, c, a)...)
	holds(t, "all but durable", h, "log.1", log)
	puts(t, s, b)
	want(t, "fifth", s.Sync(), api.OK)
	log = append(log, groupBytes(4, c, a, b)...)
	holds(t, "fifth", h, "log.1", log)
	want(t, "nothing pending is no attempt", s.Sync(), api.OK)
	puts(t, s, c)
	want(t, "sixth", s.Sync(), api.OK)
	log = append(log, groupBytes(5, c)...)
	holds(t, "sixth", h, "log.1", log)
	looks(t, "sixth", s, 1, len(log), 0, sidesOf(".a.....c", "b-"))
	want(t, "checkpoint", s.Checkpoint(), api.OK)
	puts(t, s, a)
	want(t, "in a new log", s.Sync(), api.OK)
	holds(t, "in a new log", h, "log.2", groupBytes(0, a))
}

// TestP4_1Opened: an opened shelf numbers from 0 again, behind what its log has.
func TestP4_1Opened(t *testing.T) {
	s := made(t, room, "....")
	a, b := write(0, 1, "a"), write(0, 2, "b")
	for _, w := range []scroll.Write{a, b} {
		puts(t, s, w)
		want(t, "sync", s.Sync(), api.OK)
	}
	o, e := Open(s.Host(), room)
	want(t, "open", e, api.OK)
	puts(t, o, a)
	want(t, "sync", o.Sync(), api.OK)
	holds(t, "opened", o.Host(), "log.1", groupBytes(0, a), groupBytes(1, b), groupBytes(0, a))
	looks(t, "opened", o, 1, 3*40, 0, sidesOf(".ab."))
	o.Host().Fault(1)
	puts(t, o, b)
	want(t, "fails", o.Sync(), api.ErrIO)
	o, e = Open(o.Host(), room)
	want(t, "open with a turn", e, api.OK)
	puts(t, o, a)
	want(t, "sync", o.Sync(), api.OK)
	holds(t, "opened with a turn", o.Host(), "log.2", groupBytes(0, a))
}

func TestP4_2Make(t *testing.T) {
	big := strings.Repeat("b", api.Quick)
	for _, sides := range [][][]byte{
		sidesOf("abc"),
		sidesOf(""),
		{nil},
		sidesOf("a", "", "c"),
		sidesOf(big),
		sidesOf(big, big, big, big, big, big, big, big),
	} {
		h := host.New(room)
		s, e := Make(h, sides, 5)
		want(t, "make", e, api.OK)
		if s.Host() != h {
			t.Error("another host")
		}
		looks(t, "made", s, 1, 0, 0, sides)
		names(t, "made", h, "base", "log.1")
		holds(t, "made", h, "base", Base(1, sides))
		holds(t, "made", h, "log.1")
		if left := h.Crash(0, nil); !host.Same(left, h) {
			t.Error("not durable")
		}
	}
}

func TestP4_2MakeWrong(t *testing.T) {
	over := strings.Repeat("o", api.Quick+1)
	taken := host.New(room)
	taken.Create("base")
	for _, c := range []struct {
		what  string
		h     *host.Host
		sides [][]byte
		e     api.Errno
	}{
		{"no host", nil, sidesOf("a"), api.ErrNone},
		{"no host and no sides", nil, nil, api.ErrNone},
		{"no sides", host.New(room), nil, api.ErrArg},
		{"no sides, but not nil", host.New(room), [][]byte{}, api.ErrArg},
		{"nine sides", host.New(room), make([][]byte, 9), api.ErrArg},
		{"a side too long", host.New(room), sidesOf(over), api.ErrArg},
		{"the last side too long", host.New(room), sidesOf("a", over), api.ErrArg},
		{"no sides on a taken host", taken, nil, api.ErrArg},
		{"nine sides on a taken host", taken, make([][]byte, 9), api.ErrArg},
		{"a taken host", taken, sidesOf("a"), api.ErrTwice},
	} {
		was := c.h.Names()
		var s *Shelf
		var e api.Errno
		_, n := calls(c.h, func() { s, e = Make(c.h, c.sides, 0) })
		want(t, c.what, e, c.e)
		if s != nil || !slices.Equal(c.h.Names(), was) || n != 0 {
			t.Errorf("%s: %v, files %q, %d calls", c.what, s, c.h.Names(), n)
		}
	}
}

func TestP4_3Write(t *testing.T) {
	s := made(t, room, "0123", "", "ab")
	for i, c := range []struct {
		w scroll.Write
		e api.Errno
	}{
		{write(0, 0, "x"), api.OK},
		{write(0, 3, "y"), api.OK},
		{write(0, 3, "yz"), api.ErrArg},
		{write(0, 4, "y"), api.ErrArg},
		{write(0, 0, "0123"), api.OK},
		{write(0, 0, "01234"), api.ErrArg},
		{write(0, 0, ""), api.ErrArg},
		{write(0, 4, ""), api.ErrArg},
		{write(1, 0, "x"), api.ErrArg},
		{write(1, 0, ""), api.ErrArg},
		{write(2, 0, "AB"), api.OK},
		{write(2, 1, "AB"), api.ErrArg},
		{write(3, 0, "x"), api.ErrArg},
		{write(7, 0, "x"), api.ErrArg},
		{write(8, 0, "x"), api.ErrArg},
		{write(255, 0, "x"), api.ErrArg},
		{write(0, math.MaxUint32, "x"), api.ErrArg},
		{write(0, 1<<31, "x"), api.ErrArg},
		{write(2, 1, "q"), api.OK},
		{scroll.Write{}, api.ErrArg},
	} {
		before, pending := s.Sides(), s.Pending()
		if e := s.Write(c.w); e != c.e {
			t.Fatalf("write %d: error %d, want %d", i, e, c.e)
		}
		if c.e != api.OK && (!sameSides(before, s.Sides()) || s.Pending() != pending) {
			t.Errorf("write %d has an effect", i)
		}
	}
	if !sameSides(s.Sides(), sidesOf("0123", "", "Aq")) {
		t.Errorf("%q", s.Sides())
	}
	looks(t, "written", s, 1, 0, 5, sidesOf("0123", "", "ab"))
	holds(t, "written", s.Host(), "log.1")
}

func TestP4_3WriteLong(t *testing.T) {
	s := made(t, room, strings.Repeat(".", api.Quick))
	want(t, "too long", s.Write(write(0, 0, strings.Repeat("x", api.MaxRecord+1))), api.ErrArg)
	puts(t, s, write(0, api.Quick-api.MaxRecord, strings.Repeat("y", api.MaxRecord)))
	want(t, "sync", s.Sync(), api.OK)
	o, e := Open(s.Host().Crash(0, nil), room)
	want(t, "open", e, api.OK)
	looks(t, "longest", o, 1, 8+14+api.MaxRecord+17, 0, s.Sides())
}

// TestP4_3Merge: single bytes become records as long as may be, in one group.
func TestP4_3Merge(t *testing.T) {
	const n = api.MaxRecord + 10
	s := made(t, room, strings.Repeat(".", n), "....")
	for i := range uint32(n) {
		puts(t, s, write(0, i, "x"))
	}
	puts(t, s, write(1, 1, "a"), write(1, 2, "b"), write(1, 2, "c"))
	if s.Pending() != n+3 {
		t.Error("pending", s.Pending())
	}
	changes, all := calls(s.Host(), func() { want(t, "sync", s.Sync(), api.OK) })
	if changes != 6 || all != 6 {
		t.Error("calls", changes, all)
	}
	log := groupBytes(0, write(0, 0, strings.Repeat("x", api.MaxRecord)), write(0, api.MaxRecord, strings.Repeat("x", 10)), write(1, 1, "ab"), write(1, 2, "c"))
	holds(t, "merged", s.Host(), "log.1", log)
	looks(t, "merged", s, 1, len(log), 0, sidesOf(strings.Repeat("x", n), ".ac."))
}

func TestP4_3SyncFails(t *testing.T) {
	type failure struct {
		set func(h *host.Host)
		log int // bytes that the attempt leaves
		e   api.Errno
	}
	var l []failure
	for n, log := range []int{0, 23, 46, 63} { // two records, the mark, the host's Sync
		l = append(l,
			failure{func(h *host.Host) { h.Fault(n) }, log, api.ErrIO},
			failure{func(h *host.Host) { h.Arm(n) }, log, api.ErrOff})
	}
	for free, log := range map[int]int{0: 0, 22: 0, 23: 23, 45: 23, 46: 46, 62: 46} {
		l = append(l, failure{func(h *host.Host) { h.Limit(h.Used() + free) }, log, api.ErrFull})
	}
	for _, f := range l {
		s := made(t, 0, "....")
		h := s.Host()
		puts(t, s, write(0, 0, "a"), write(0, 2, "b"))
		f.set(h)
		want(t, "fails", s.Sync(), f.e)
		looks(t, "failed", s, 1, f.log, 2, sidesOf("...."))
		if n, _ := h.Size("log.1"); n != f.log || !sameSides(s.Sides(), sidesOf("a.b.")) {
			t.Errorf("log of %d bytes, sides %q", n, s.Sides())
		}
		h.Arm(-1)
		h.Limit(room)
		puts(t, s, write(0, 3, "c"))
		want(t, "again", s.Sync(), api.OK)
		looks(t, "again", s, 2, 0, 0, sidesOf("a.bc"))
	}
}

// TestP4_3SyncNothing: without pending writes the host is not called.
func TestP4_3SyncNothing(t *testing.T) {
	s := made(t, 1000, "....")
	puts(t, s, write(0, 1, "a"))
	want(t, "sync", s.Sync(), api.OK)
	changes, all := calls(s.Host(), func() { want(t, "nothing", s.Sync(), api.OK) })
	if changes != 0 || all != 0 {
		t.Error("calls", changes, all)
	}
	s.Host().Arm(0)
	want(t, "nothing, without power", s.Sync(), api.OK)
	looks(t, "nothing", s, 1, 40, 0, sidesOf(".a.."))
}

// TestP4_3Top: a log of exactly top bytes is left, one more makes a Checkpoint.
func TestP4_3Top(t *testing.T) {
	for _, c := range []struct {
		top, log int
		gen      uint32
	}{{40, 40, 1}, {39, 0, 2}, {41, 40, 1}, {0, 0, 2}, {-1, 0, 2}, {math.MinInt, 0, 2}, {math.MaxInt, 40, 1}} {
		s := made(t, c.top, "....")
		puts(t, s, write(0, 1, "a"))
		looks(t, "written", s, 1, 0, 1, sidesOf("...."))
		want(t, "sync", s.Sync(), api.OK)
		looks(t, "synced", s, c.gen, c.log, 0, sidesOf(".a.."))
		names(t, "synced", s.Host(), "base", LogName(c.gen))
		want(t, "nothing pending", s.Sync(), api.OK)
		if c.top < 0 {
			c.gen++ // even an empty log has more bytes
		}
		looks(t, "synced again", s, c.gen, c.log, 0, sidesOf(".a.."))
	}
}

// TestP4_3Bounded: with one byte a Sync, the log never stays beyond top (P6).
func TestP4_3Bounded(t *testing.T) {
	s := made(t, 100, strings.Repeat(".", 256))
	for i := range uint32(200) {
		puts(t, s, write(0, i, "x"))
		want(t, "sync", s.Sync(), api.OK)
		if n, _ := s.Host().Size(LogName(s.Gen())); s.Log() > 100 || n != s.Log() || len(s.Host().Names()) != 2 {
			t.Fatal(i, s.Log(), n, s.Host().Names())
		}
	}
	if s.Gen() != 67 || s.Host().Reads() != 0 {
		t.Error(s.Gen(), s.Host().Reads())
	}
}

// TestP4_3CheckpointRetried: Sync ignores the error of its Checkpoint, and the next Sync tries again.
func TestP4_3CheckpointRetried(t *testing.T) {
	s := made(t, 30, "....")
	h := s.Host()
	puts(t, s, write(0, 1, "a"))
	h.Fault(3 + 2) // behind the group: at the Sync of tmp
	want(t, "synced, but no checkpoint", s.Sync(), api.OK)
	looks(t, "no checkpoint", s, 1, 40, 0, sidesOf(".a.."))
	names(t, "no checkpoint", h, "base", "log.1", "tmp")
	h.Fault(4) // Remove, Create, Append, Sync, Create of the log
	want(t, "nothing pending, and no checkpoint", s.Sync(), api.OK)
	looks(t, "still none", s, 1, 40, 0, sidesOf(".a.."))
	puts(t, s, write(0, 2, "b"))
	h.Fault(0)
	want(t, "an error of Sync itself", s.Sync(), api.ErrIO)
	looks(t, "then no checkpoint is tried", s, 1, 40, 1, sidesOf(".a.."))
	want(t, "both", s.Sync(), api.OK)
	looks(t, "both", s, 2, 0, 0, sidesOf(".ab."))
	names(t, "both", h, "base", "log.2")
}

// TestP4_3Exists: what exists is asked by Names, so that Make, Sync and Checkpoint read nothing.
func TestP4_3Exists(t *testing.T) {
	h := host.New(room)
	var s *Shelf
	changes, all := calls(h, func() { s, _ = Make(h, sidesOf("...."), 0) })
	if changes != 7 || all != 7 {
		t.Error("make", changes, all)
	}
	puts(t, s, write(0, 0, "a"))
	changes, all = calls(h, func() { want(t, "sync", s.Sync(), api.OK) })
	if changes != 3+7+1 || all != 3+7+1 {
		t.Error("sync", changes, all)
	}
	if h.Reads() != 0 {
		t.Error("reads", h.Reads())
	}
}

func TestNilShelf(t *testing.T) {
	var s *Shelf
	want(t, "write", s.Write(write(0, 0, "a")), api.ErrNone)
	want(t, "wrong write", s.Write(scroll.Write{}), api.ErrNone)
	want(t, "sync", s.Sync(), api.ErrNone)
	want(t, "checkpoint", s.Checkpoint(), api.ErrNone)
	if len(s.Sides()) != 0 || len(s.Safe()) != 0 || s.Pending() != 0 || s.Gen() != 0 || s.Log() != 0 || s.Host() != nil {
		t.Error("a nil shelf has something")
	}
}

// TestMemory: arguments are neither changed nor kept, and results share nothing with each other.
func TestMemory(t *testing.T) {
	back := []byte("abcdef")
	sides := [][]byte{back[:2], back[2:4], back[4:]}
	s, e := Make(host.New(room), sides[:2], room)
	want(t, "make", e, api.OK)
	data := []byte("XY")
	puts(t, s, scroll.Write{Data: data[:1]}, scroll.Write{At: 1, Data: data[:1]})
	if string(back) != "abcdef" || len(sides[2]) != 2 || string(data) != "XY" {
		t.Errorf("changed: %q %q", back, data)
	}
	clear(back)
	clear(data)
	spoil(s.Sides())
	spoil(s.Safe())
	if !sameSides(s.Sides(), sidesOf("XX", "cd")) || !sameSides(s.Safe(), sidesOf("ab", "cd")) {
		t.Errorf("%q %q", s.Sides(), s.Safe())
	}
	want(t, "sync", s.Sync(), api.OK)
	holds(t, "kept", s.Host(), "log.1", groupBytes(0, write(0, 0, "XX")))
	puts(t, s, write(1, 0, "Z"))
	if !sameSides(s.Safe(), sidesOf("XX", "cd")) {
		t.Errorf("%q", s.Safe())
	}
	o, e := Open(s.Host(), room)
	want(t, "open", e, api.OK)
	spoil(o.Sides())
	puts(t, o, write(1, 0, "Z"))
	if !sameSides(o.Sides(), sidesOf("XX", "Zd")) || !sameSides(o.Safe(), sidesOf("XX", "cd")) {
		t.Errorf("%q %q", o.Sides(), o.Safe())
	}
}

// spoil overwrites all memory of sides.
func spoil(sides [][]byte) {
	for i, s := range sides {
		s = s[:cap(s)]
		for j := range s {
			s[j] = 0xee
		}
		sides[i] = nil
	}
}
