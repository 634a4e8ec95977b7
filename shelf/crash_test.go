package shelf

import (
	"math/rand"
	"testing"

	"kotatsu/api"
	"kotatsu/host"
	"kotatsu/scroll"
)

// session is a shelf in use, and the sides that a recovery may find.
type session struct {
	t   *testing.T
	h   *host.Host
	s   *Shelf
	may [][][]byte // those of the last Sync that returned OK, then those of the attempts since
}

func began(t *testing.T, h *host.Host, sides [][]byte, top int) *session {
	s, _ := Make(h, sides, top)
	return &session{t: t, h: h, s: s, may: [][][]byte{sides}}
}

func (x *session) sync() {
	now, pending := x.s.Sides(), x.s.Pending()
	e := x.s.Sync()
	if pending == 0 {
		want(x.t, "sync of nothing", e, api.OK)
		return
	}
	if e == api.OK {
		x.may = nil
	}
	x.may = append(x.may, now)
}

func (x *session) allows(sides [][]byte) bool {
	for _, m := range x.may {
		if sameSides(m, sides) {
			return true
		}
	}
	return false
}

// recovers fails unless Open on the host that a crash left finds sides that it may find.
func (x *session) recovers(keep int, tails []int) *Shelf {
	x.t.Helper()
	left := x.h.Crash(keep, tails)
	left.Limit(room) // a full host has no room for a turn
	s, e := Open(left, 50)
	if x.s == nil && e == api.ErrNone {
		return nil // Make never came so far
	}
	want(x.t, "open after a crash", e, api.OK)
	if !x.allows(s.Sides()) {
		x.t.Fatalf("a crash that keeps %d and %d finds %q, may be %q", keep, tails, s.Sides(), x.may)
	}
	return s
}

// recoversTwice fails unless an Open that is stopped anywhere leaves a host on which the next one finds the same.
func (x *session) recoversTwice(keep int, tails []int) {
	x.t.Helper()
	s := x.recovers(keep, tails)
	if s == nil {
		return
	}
	t, given, sides := x.t, x.h.Crash(keep, tails), s.Sides()
	given.Limit(room)
	for n := range 12 {
		for _, fault := range []bool{false, true} {
			h := given.Copy()
			if fault {
				h.Fault(n)
			} else {
				h.Arm(n)
			}
			Open(h, 50)
			for keep := range 6 {
				for _, tails := range [][]int{nil, {1 << 20}, {5}} {
					s, e := Open(h.Crash(keep, tails), 50)
					want(t, "open after a stopped one", e, api.OK)
					if !sameSides(s.Sides(), sides) {
						t.Fatalf("stopped at call %d: %q, want %q", n, s.Sides(), sides)
					}
				}
			}
			heal(h)
			s, e := Open(h, 50)
			want(t, "open without a crash", e, api.OK)
			if !sameSides(s.Sides(), sides) {
				t.Fatalf("stopped at call %d, without a crash: %q, want %q", n, s.Sides(), sides)
			}
		}
	}
}

// play runs some writes and Syncs, whatever the host answers.
func (x *session) play() {
	if x.s == nil {
		return
	}
	for _, l := range [][]scroll.Write{
		{write(0, 0, "a"), write(1, 1, "b")},
		{write(0, 1, "cd"), write(0, 3, "e")},
		{},
		{write(0, 0, "f"), write(1, 0, "g"), write(0, 0, "h")},
	} {
		puts(x.t, x.s, l...)
		x.sync()
	}
	x.s.Checkpoint()
	puts(x.t, x.s, write(1, 1, "i"), write(0, 2, "j"))
	x.s.Checkpoint()
	x.sync()
	puts(x.t, x.s, write(0, 0, "k"))
}

// TestP4_5Example is the document's.
func TestP4_5Example(t *testing.T) {
	s := made(t, room, "\x00\x00\x00")
	puts(t, s, write(0, 1, "\x01"))
	want(t, "sync", s.Sync(), api.OK)
	o, e := Open(s.Host().Crash(0, nil), room)
	want(t, "open", e, api.OK)
	looks(t, "open", o, 1, 40, 0, sidesOf("\x00\x01\x00"))
}

// TestP4_5Everywhere loses the power at each call, with and without an error at each call ahead of it.
func TestP4_5Everywhere(t *testing.T) {
	for _, top := range []int{0, 60, 1000} {
		for off := range 76 {
			for fault := -1; fault < off; fault++ {
				h := host.New(room)
				h.Arm(off)
				h.Fault(fault)
				x := began(t, h, sidesOf("....", "--"), top)
				x.play()
				for keep := range 4 {
					x.recovers(keep, nil)
					x.recovers(keep, []int{1 << 20})
					x.recovers(keep, []int{1 << 20, (off*7 + fault + 1) % 80})
				}
				if fault < 0 {
					x.recoversTwice(0, []int{off % 30})
					x.recoversTwice(1, nil)
				}
			}
		}
	}
}

// TestP4_5Cut cuts the log of an unfinished Sync at each byte.
func TestP4_5Cut(t *testing.T) {
	for calls := range 5 {
		h := host.New(room)
		x := began(t, h, sidesOf("....", "--"), room)
		puts(t, x.s, write(0, 0, "a"))
		x.sync()
		puts(t, x.s, write(0, 0, "b"), write(1, 1, "c"), write(0, 3, "d"))
		h.Arm(calls)
		x.sync()
		want(t, "power lost", x.s.Sync(), api.ErrOff)
		old, now := x.may[0], x.s.Sides()
		for tail := range 100 {
			s := x.recovers(0, []int{tail})
			if tail%7 == 0 {
				x.recoversTwice(0, []int{tail})
			}
			if all := calls == 4 && tail >= 3*23+17; all != sameSides(s.Sides(), now) || !all != sameSides(s.Sides(), old) {
				t.Fatalf("%d calls and %d bytes: %q", calls, tail, s.Sides())
			}
		}
	}
}

// TestP4_5Random: long lives of failures, crashes and recoveries, each held against all that may be found.
func TestP4_5Random(t *testing.T) {
	for seed := range int64(300) {
		r := rand.New(rand.NewSource(seed))
		x := began(t, host.New(room), sidesOf("........", "----", "", "+"), r.Intn(200)-20)
		for i := range 120 {
			x.step(r)
			x.recovers(r.Intn(6), randomTails(r))
			if i%40 == 0 {
				x.recoversTwice(r.Intn(6), randomTails(r))
			}
			if t.Failed() {
				t.Fatal("seed", seed)
			}
		}
	}
}

func randomTails(r *rand.Rand) []int {
	return []int{r.Intn(60) - 5, r.Intn(100) - 5, 1 << 20}[r.Intn(3):][:1]
}

func (x *session) step(r *rand.Rand) {
	switch r.Intn(16) {
	case 0:
		x.h.Fault(r.Intn(14))
	case 1:
		x.h.Limit(x.h.Used() + r.Intn(120))
	case 2, 3:
		heal(x.h)
	case 4:
		x.s.Checkpoint()
	case 5:
		x.h.Arm(r.Intn(14))
	case 6:
		// A crash, from which the life goes on with what was found.
		if s := x.recovers(r.Intn(6), randomTails(r)); s != nil {
			x.s, x.h, x.may = s, s.Host(), [][][]byte{s.Sides()}
		}
	case 7:
		// The program ends without a crash of its host.
		if s, e := Open(x.h, r.Intn(200)-20); e == api.OK {
			if !x.allows(s.Sides()) {
				x.t.Fatalf("without a crash: %q, may be %q", s.Sides(), x.may)
			}
			x.s = s
		}
	case 8, 9, 10:
		x.sync()
	default:
		data := []byte{byte(r.Intn(256)), byte(r.Intn(256)), byte(r.Intn(256))}
		x.s.Write(scroll.Write{Side: byte(r.Intn(5)), At: uint32(r.Intn(8)), Data: data[:r.Intn(4)]})
	}
}
