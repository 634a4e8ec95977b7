package shelf

import (
	"strings"
	"testing"

	"kotatsu/api"
	"kotatsu/host"
	"kotatsu/scroll"
)

// stored is a host with these files, all durable: name, contents, name, contents ..
func stored(t *testing.T, l ...string) *host.Host {
	t.Helper()
	h := host.New(room)
	for i := 0; i < len(l); i += 2 {
		want(t, "create", h.Create(l[i]), api.OK)
		want(t, "append", h.Append(l[i], []byte(l[i+1])), api.OK)
		want(t, "sync", h.Sync(l[i]), api.OK)
	}
	return h
}

func base(gen uint32, l ...string) string {
	return string(Base(gen, sidesOf(l...)))
}

func text(number uint32, l ...scroll.Write) string {
	return string(groupBytes(number, l...))
}

// refuses fails unless Open answers e and leaves h as it is.
func refuses(t *testing.T, what string, h *host.Host, e api.Errno) {
	t.Helper()
	was := h.Copy()
	var s *Shelf
	var got api.Errno
	changes, _ := calls(h, func() { s, got = Open(h, 0) })
	want(t, what, got, e)
	if s != nil || changes != 0 || !host.Same(h, was) {
		t.Errorf("%s: %v, %d changes", what, s, changes)
	}
}

func TestP4_4Open(t *testing.T) {
	a, b, c := write(0, 1, "ab"), write(1, 0, "c"), write(0, 2, "d")
	for _, x := range []struct {
		what, log string
		want      [][]byte
	}{
		{"an empty log", "", sidesOf("....", "-")},
		{"a group", text(0, a, b), sidesOf(".ab.", "c")},
		{"two groups, in order", text(0, a) + text(1, c), sidesOf(".ad.", "-")},
		{"two groups, the other way", text(0, c) + text(1, a), sidesOf(".ab.", "-")},
		{"any numbers", text(9, a) + text(0, b) + text(0, c), sidesOf(".ad.", "c")},
		{"records of a failed attempt within", string(a.Bytes(0, 0)) + text(1, b), sidesOf("....", "c")},
	} {
		h := stored(t, "base", base(7, "....", "-"), "log.7", x.log, "log.6", text(0, a), "log.8", "old", "tmp", "t")
		was := h.Copy()
		var s *Shelf
		var e api.Errno
		changes, all := calls(h, func() { s, e = Open(h, 0) })
		want(t, x.what, e, api.OK)
		looks(t, x.what, s, 7, len(x.log), 0, x.want)
		if changes != 0 || all != 2 || !host.Same(h, was) || s.Host() != h {
			t.Errorf("%s: %d changes, %d calls", x.what, changes, all)
		}
		if n := len(base(7, "....", "-")) + len(x.log); h.Reads() != n {
			t.Errorf("%s: %d bytes read, want %d", x.what, h.Reads(), n)
		}
	}
}

// TestP4_4Top: Open itself makes no Checkpoint of a long log; the next Sync does.
func TestP4_4Top(t *testing.T) {
	h := stored(t, "base", base(1, "...."), "log.1", text(0, write(0, 0, "a")))
	s, e := Open(h, 39)
	want(t, "open", e, api.OK)
	looks(t, "open", s, 1, 40, 0, sidesOf("a..."))
	want(t, "sync", s.Sync(), api.OK)
	looks(t, "sync", s, 2, 0, 0, sidesOf("a..."))
}

func TestP4_4WrongBase(t *testing.T) {
	whole := base(1, "....")
	contents := func(p ...byte) string { return string(framed(p)) }
	long := strings.Repeat("x", api.Quick+1)
	flipped := []byte(whole)
	flipped[12]++
	for _, x := range []struct {
		what, base string
		e          api.Errno
	}{
		{"empty", "", api.ErrForm},
		{"seven bytes", whole[:7], api.ErrForm},
		{"cut off", whole[:len(whole)-1], api.ErrForm},
		{"bytes behind", whole + "x", api.ErrForm},
		{"a frame behind", whole + whole, api.ErrForm},
		{"a wrong sum", string(flipped), api.ErrSum},
		{"a wrong sum and bytes behind", string(flipped) + "x", api.ErrSum},
		{"a length above all", "\x01\x00\x00\x01" + whole[4:], api.ErrForm},
		{"no contents", contents(), api.ErrForm},
		{"a generation alone", contents(1, 0, 0, 0), api.ErrForm},
		{"no sides", contents(1, 0, 0, 0, 0), api.ErrForm},
		{"a side missing", contents(1, 0, 0, 0, 1), api.ErrForm},
		{"a length cut off", contents(1, 0, 0, 0, 1, 0, 0, 0), api.ErrForm},
		{"a side cut off", contents(1, 0, 0, 0, 1, 2, 0, 0, 0, 9), api.ErrForm},
		{"a length with its highest bit", contents(1, 0, 0, 0, 1, 1, 0, 0, 128, 9), api.ErrForm},
		{"a byte behind the sides", contents(1, 0, 0, 0, 1, 1, 0, 0, 0, 9, 9), api.ErrForm},
		{"the second side missing", contents(1, 0, 0, 0, 2, 1, 0, 0, 0, 9), api.ErrForm},
		{"nine sides", base(1, "", "", "", "", "", "", "", "", ""), api.ErrForm},
		{"a side too long", base(1, long), api.ErrForm},
	} {
		refuses(t, x.what, stored(t, "base", x.base, "log.1", ""), x.e)
		refuses(t, x.what+", without a log", stored(t, "base", x.base), x.e)
		refuses(t, x.what+", with a wrong log", stored(t, "base", x.base, "log.1", "\x00\x00\x00\x00\x00\x00\x00\x00"), x.e)
	}
	eight := stored(t, "base", base(1, "", "", "", "", "", "", "", long[1:]), "log.1", "")
	s, e := Open(eight, 0)
	want(t, "the most", e, api.OK)
	looks(t, "the most", s, 1, 0, 0, sidesOf("", "", "", "", "", "", "", long[1:]))
}

func TestP4_4WrongLog(t *testing.T) {
	a := write(0, 1, "ab")
	flipped := []byte(text(0, a))
	flipped[len(flipped)-1]++
	for _, x := range []struct {
		what, log string
		e         api.Errno
	}{
		{"a wrong sum", string(flipped), api.ErrSum},
		{"zeros", "\x00\x00\x00\x00\x00\x00\x00\x00", api.ErrSum},
		{"neither record nor mark", text(0, a) + string(framed([]byte{3})), api.ErrForm},
		{"an invalid write", text(0, write(8, 0, "x")), api.ErrForm},
		{"beyond the side", text(0, write(0, 3, "xy")), api.ErrForm},
		{"no such side", text(0, write(2, 0, "x")), api.ErrForm},
		{"beyond the side, behind a group", text(0, a) + text(1, a, write(1, 1, "x")), api.ErrForm},
		{"beyond the side, and cut off", text(0, write(0, 4, "x")) + "cut", api.ErrForm},
		{"a wrong sum behind what can't be applied", text(0, write(0, 4, "x")) + string(flipped), api.ErrSum},
	} {
		refuses(t, x.what, stored(t, "base", base(3, "....", "-"), "log.3", x.log, "log.4", ""), x.e)
	}
	h := stored(t, "base", base(3, "...."), "log.3", text(0, a)+string(write(0, 4, "x").Bytes(1, 0)))
	s, e := Open(h, 0)
	want(t, "what can't be applied is in no group", e, api.OK)
	looks(t, "in no group", s, 4, 0, 0, sidesOf(".ab."))
}

func TestP4_4NoHost(t *testing.T) {
	s, e := Open(nil, 0)
	if s != nil || e != api.ErrNone {
		t.Error(s, e)
	}
	refuses(t, "no files", host.New(room), api.ErrNone)
	refuses(t, "a log alone", stored(t, "log.1", "", "tmp", base(1, "....")), api.ErrNone)
}

// TestP4_4ReadFails: an error of one of the two Reads is the answer, and the next Open succeeds.
func TestP4_4ReadFails(t *testing.T) {
	for n := range 2 {
		h := stored(t, "base", base(1, "...."), "log.1", text(0, write(0, 0, "a")))
		h.Fault(n)
		was := h.Copy()
		s, e := Open(h, 0)
		want(t, "fault", e, api.ErrIO)
		if s != nil || !host.Same(h, was) {
			t.Error(s, h.Names())
		}
		s, e = Open(h, 0)
		want(t, "again", e, api.OK)
		looks(t, "again", s, 1, 40, 0, sidesOf("a..."))
	}
	h := stored(t, "base", base(1, "...."))
	h.Fault(1)
	_, e := Open(h, 0)
	want(t, "a log that is not there is read too", e, api.ErrIO)
}

// TestP4_4TurnCalls: a log that is missing or can't be continued makes Open turn, with these calls.
func TestP4_4TurnCalls(t *testing.T) {
	a, b := write(0, 1, "ab"), write(0, 3, "c")
	for _, x := range []struct {
		what string
		log  []string
		want [][]byte
	}{
		{"no log", nil, sidesOf("....")},
		{"one byte", []string{"log.7", "\x17"}, sidesOf("....")},
		{"a record cut off", []string{"log.7", text(0, a)[:20]}, sidesOf("....")},
		{"a record without a mark", []string{"log.7", string(a.Bytes(0, 0))}, sidesOf("....")},
		{"a mark cut off", []string{"log.7", text(0, a)[:len(text(0, a))-1]}, sidesOf("....")},
		{"a mark alone", []string{"log.7", string(scroll.Mark(0, 0))}, sidesOf("....")},
		{"a group and a record", []string{"log.7", text(0, a) + string(b.Bytes(1, 0))}, sidesOf(".ab.")},
		{"a group and a byte", []string{"log.7", text(0, a, b) + "x"}, sidesOf(".abc")},
	} {
		given := stored(t, append(x.log, "base", base(7, "...."), "log.6", text(0, b), "log.8", "old", "log.80", "", "logs", "", "tmp", "t")...)
		turn := append([]step{remove("tmp"), remove("log.8")}, turnSteps(8, x.want)...)
		for i, fail := range failures() {
			h := given.Copy()
			fail(h)
			twin := h.Copy()
			e := playOpen(twin, turn)
			s, got := Open(h, room)
			want(t, x.what, got, e)
			alike(t, x.what, h, twin)
			if e == api.OK {
				looks(t, x.what, s, 8, 0, 0, x.want)
			} else if s != nil {
				t.Fatal("a shelf beside error", e)
			}
			if i == 0 {
				names(t, x.what, h, "base", "log.8", "logs")
			}
			heal(h)
			s, e = Open(h, room)
			want(t, x.what+", again", e, api.OK)
			if s.Gen() != 8 || !sameSides(s.Sides(), x.want) {
				t.Fatalf("%s, again: %d %q", x.what, s.Gen(), s.Sides())
			}
		}
	}
}

// playOpen makes the calls of an Open that turns from generation 7 to 8.
func playOpen(h *host.Host, turn []step) api.Errno {
	if _, e := h.Read("base"); e != api.OK {
		return e
	}
	if _, e := h.Read("log.7"); e != api.OK && e != api.ErrNone {
		return e
	}
	if _, e := play(h, turn); e != api.OK {
		return e
	}
	for _, name := range h.Names() {
		if strings.HasPrefix(name, "log.") && name != "log.8" {
			h.Remove(name)
		}
	}
	return api.OK
}

// TestP4_4ReadOnce: also with a turn, each file is read at most once (P6).
func TestP4_4ReadOnce(t *testing.T) {
	log := text(0, write(0, 0, "a")) + "cut"
	h := stored(t, "base", base(1, "...."), "log.1", log, "log.2", "other", "tmp", "other")
	var s *Shelf
	changes, all := calls(h, func() { s, _ = Open(h, 0) })
	looks(t, "open", s, 2, 0, 0, sidesOf("a..."))
	if all-changes != 2 || h.Reads() != len(base(1, "...."))+len(log) {
		t.Error(all-changes, h.Reads())
	}
}
