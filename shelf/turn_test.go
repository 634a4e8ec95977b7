package shelf

import (
	"errors"
	"math"
	"strings"
	"testing"

	"kotatsu/api"
	"kotatsu/host"
)

// step is one call that the document asks for.
type step func(h *host.Host) api.Errno

func create(name string) step { return func(h *host.Host) api.Errno { return h.Create(name) } }
func remove(name string) step { return func(h *host.Host) api.Errno { return h.Remove(name) } }
func sync(name string) step   { return func(h *host.Host) api.Errno { return h.Sync(name) } }
func appends(name string, p []byte) step {
	return func(h *host.Host) api.Errno { return h.Append(name, p) }
}
func rename(from, to string) step { return func(h *host.Host) api.Errno { return h.Rename(from, to) } }

// turnSteps is a turn to gen, behind the removals.
func turnSteps(gen uint32, sides [][]byte) []step {
	log := LogName(gen)
	return []step{create("tmp"), appends("tmp", Base(gen, sides)), sync("tmp"), create(log), sync(log), rename("tmp", "base"), sync("base")}
}

// play makes the steps up to the first error, and returns how many went well.
func play(h *host.Host, l []step) (int, api.Errno) {
	for i, s := range l {
		if e := s(h); e != api.OK {
			return i, e
		}
	}
	return len(l), api.OK
}

// alike fails if two hosts differ now, in what a crash leaves of them, or in the calls that they still take.
func alike(t *testing.T, what string, a, b *host.Host) {
	t.Helper()
	if !host.Same(a, b) {
		t.Fatalf("%s: files %q, want %q", what, a.Names(), b.Names())
	}
	for keep := range 9 {
		for _, tails := range [][]int{nil, {1 << 20}, {7}, {0, 30}, {30, 0}} {
			if x, y := a.Crash(keep, tails), b.Crash(keep, tails); !host.Same(x, y) {
				t.Fatalf("%s: a crash keeps %q, want %q", what, x.Names(), y.Names())
			}
		}
	}
	a, b = a.Copy(), b.Copy()
	for range 20 {
		if x, y := a.Sync("?"), b.Sync("?"); x != y {
			t.Fatalf("%s: the next call answers %d, want %d", what, x, y)
		}
	}
}

// failures let a host fail at all places; the first does nothing.
func failures() []func(h *host.Host) {
	l := []func(h *host.Host){func(*host.Host) {}}
	for n := range 16 {
		l = append(l,
			func(h *host.Host) { h.Arm(n) },
			func(h *host.Host) { h.Fault(n) },
			func(h *host.Host) { h.Fault(n); h.Arm(n + 3) })
	}
	for _, n := range []int{0, 1, 10, 20, 21, 22, 30, 60, 100} {
		l = append(l, func(h *host.Host) { h.Limit(h.Used() + n) })
	}
	return l
}

func heal(h *host.Host) {
	h.Arm(-1)
	h.Fault(-1)
	h.Limit(room)
}

func TestP4_2MakeCalls(t *testing.T) {
	sides := sidesOf("abc", "d")
	for _, c := range []struct {
		there   []string
		removes []step
	}{
		{nil, nil},
		{[]string{"tmp"}, []step{remove("tmp")}},
		{[]string{"log.1"}, []step{remove("log.1")}},
		{[]string{"log.1", "tmp"}, []step{remove("tmp"), remove("log.1")}},
		{[]string{"log.0", "log.1x", "log.2", "tm", "base.1"}, nil},
	} {
		given := host.New(room)
		for _, name := range c.there {
			given.Create(name)
			given.Append(name, []byte("old"))
			given.Sync(name)
		}
		for _, fail := range failures() {
			h := given.Copy()
			fail(h)
			twin := h.Copy()
			_, e := play(twin, append(c.removes, turnSteps(1, sides)...))
			s, got := Make(h, sides, 0)
			want(t, "make", got, e)
			alike(t, "make", h, twin)
			if (s == nil) != (e != api.OK) {
				t.Fatal("a shelf beside error", e)
			}
		}
	}
}

// checkpointed is a shelf of generation 1 with a log, a pending write and other files.
func checkpointed(t *testing.T, h *host.Host) *Shelf {
	s, e := Make(h, sidesOf("abc", "d"), room)
	want(t, "make", e, api.OK)
	puts(t, s, write(0, 1, "X"))
	want(t, "sync", s.Sync(), api.OK)
	puts(t, s, write(1, 0, "Y"))
	for _, name := range []string{"log.", "log.10", "log.2", "logx", "lo", "tmp", "xlog.1"} {
		want(t, "create", h.Create(name), api.OK)
		want(t, "append", h.Append(name, []byte("old")), api.OK)
		want(t, "sync", h.Sync(name), api.OK)
	}
	return s
}

func TestP4_2Checkpoint(t *testing.T) {
	s := checkpointed(t, host.New(room))
	want(t, "checkpoint", s.Checkpoint(), api.OK)
	looks(t, "checkpoint", s, 2, 0, 1, sidesOf("aXc", "d"))
	names(t, "checkpoint", s.Host(), "base", "lo", "log.2", "logx", "xlog.1")
	holds(t, "checkpoint", s.Host(), "base", Base(2, sidesOf("aXc", "d")))
	holds(t, "checkpoint", s.Host(), "log.2")
	o, e := Open(s.Host().Crash(0, nil), 0)
	want(t, "open", e, api.OK)
	looks(t, "open", o, 2, 0, 0, sidesOf("aXc", "d"))
	want(t, "sync", s.Sync(), api.OK)
	looks(t, "sync", s, 2, 40, 0, sidesOf("aXc", "Y"))
}

func TestP4_2CheckpointCalls(t *testing.T) {
	turn := append([]step{remove("tmp"), remove("log.2")}, turnSteps(2, sidesOf("aXc", "d"))...)
	for _, fail := range failures() {
		h := host.New(room)
		s := checkpointed(t, h)
		fail(h)
		twin := h.Copy()
		n, e := play(twin, turn)
		if e == api.OK {
			for _, name := range []string{"log.", "log.1", "log.10"} {
				twin.Remove(name)
			}
		}
		want(t, "checkpoint", s.Checkpoint(), e)
		alike(t, "checkpoint", h, twin)
		if n >= len(turn)-1 { // the Rename went well
			looks(t, "turned", s, 2, 0, 1, sidesOf("aXc", "d"))
		} else {
			looks(t, "not turned", s, 1, 40, 1, sidesOf("aXc", "d"))
		}
		if !sameSides(s.Sides(), sidesOf("aXc", "Y")) {
			t.Errorf("%q", s.Sides())
		}
		heal(h)
		want(t, "sync", s.Sync(), api.OK)
		o, e := Open(h.Crash(0, nil), 0)
		want(t, "open", e, api.OK)
		if !sameSides(o.Sides(), sidesOf("aXc", "Y")) {
			t.Errorf("after %d calls: %q", n, o.Sides())
		}
	}
}

// TestP4_2Renamed: once the Rename has succeeded, the generation is the new one, though the turn has failed.
func TestP4_2Renamed(t *testing.T) {
	s := made(t, room, "....")
	h := s.Host()
	puts(t, s, write(0, 0, "a"))
	h.Fault(6)
	want(t, "stopped at the Sync of base", s.Checkpoint(), api.ErrIO)
	looks(t, "renamed", s, 2, 0, 1, sidesOf("...."))
	names(t, "renamed", h, "base", "log.1", "log.2")
	want(t, "sync", s.Sync(), api.OK)
	holds(t, "the new log", h, "log.2", groupBytes(0, write(0, 0, "a")))
	o, e := Open(h.Crash(0, nil), room)
	want(t, "open", e, api.OK)
	looks(t, "open", o, 2, 40, 0, sidesOf("a..."))
	want(t, "next", s.Checkpoint(), api.OK)
	names(t, "next", h, "base", "log.3")
}

// TestP4_2Wrap: generation 0 follows the last.
func TestP4_2Wrap(t *testing.T) {
	h := host.New(room)
	h.Create("base")
	h.Append("base", Base(math.MaxUint32, sidesOf("....")))
	h.Create("log.4294967295")
	h.Create("log.0")
	h.Append("log.0", []byte("old"))
	s, e := Open(h, room)
	want(t, "open", e, api.OK)
	looks(t, "last", s, math.MaxUint32, 0, 0, sidesOf("...."))
	want(t, "checkpoint", s.Checkpoint(), api.OK)
	looks(t, "wrapped", s, 0, 0, 0, sidesOf("...."))
	names(t, "wrapped", h, "base", "log.0")
	holds(t, "wrapped", h, "base", Base(0, sidesOf("....")))
	want(t, "checkpoint", s.Checkpoint(), api.OK)
	looks(t, "and on", s, 1, 0, 0, sidesOf("...."))
}

// TestStopped: the wrapping error keeps the host's, and says where it came.
func TestStopped(t *testing.T) {
	h := host.New(room)
	err := inOrder(on(h.Create, "a"), with(h.Append, "a", []byte("x")), with(h.Rename, "b", "c"), on(h.Create, "d"))
	var s stopped
	if !errors.As(err, &s) || s.after != 2 || errnoOf(err) != api.ErrNone {
		t.Error(err)
	}
	if text := err.Error(); !strings.Contains(text, "after 2 calls") || !strings.Contains(text, "host error 4") {
		t.Error(text)
	}
	names(t, "stopped", h, "a")
	if errnoOf(nil) != api.OK || inOrder() != nil {
		t.Error("no error is one")
	}
}
