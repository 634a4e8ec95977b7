package host

import (
	"math"
	"slices"
	"strings"
	"testing"

	"kotatsu/api"
)

// want fails if a call answered another error.
func want(t *testing.T, what string, got, e api.Errno) {
	t.Helper()
	if got != e {
		t.Errorf("%s: error %d, want %d", what, got, e)
	}
}

// holds fails if the host has other files than these: name, contents, name, contents ..
func holds(t *testing.T, what string, h *Host, l ...string) {
	t.Helper()
	var got []string
	for _, name := range h.Names() {
		p, e := h.Read(name)
		want(t, what+": read "+name, e, api.OK)
		got = append(got, name, string(p))
	}
	if !slices.Equal(got, l) {
		t.Errorf("%s: files %q, want %q", what, got, l)
	}
}

// filled makes a host with these files, all durable.
func filled(t *testing.T, limit int, l ...string) *Host {
	t.Helper()
	h := New(limit)
	for i := 0; i < len(l); i += 2 {
		want(t, "create", h.Create(l[i]), api.OK)
		want(t, "append", h.Append(l[i], []byte(l[i+1])), api.OK)
		want(t, "sync", h.Sync(l[i]), api.OK)
	}
	return h
}

func TestP1_1Create(t *testing.T) {
	h := New(0)
	long := strings.Repeat("n", api.MaxName)
	want(t, "one byte", h.Create("a"), api.OK)
	want(t, "longest name", h.Create(long), api.OK)
	want(t, "any bytes", h.Create("\x00\xff/ "), api.OK)
	want(t, "empty name", h.Create(""), api.ErrArg)
	want(t, "name too long", h.Create(long+"n"), api.ErrArg)
	want(t, "runes are counted in bytes", h.Create(strings.Repeat("é", 17)), api.ErrArg)
	want(t, "twice", h.Create("a"), api.ErrTwice)
	holds(t, "created", h, "\x00\xff/ ", "", "a", "", long, "")
}

func TestP1_1CreateTwiceKeepsTheFile(t *testing.T) {
	h := filled(t, 9, "a", "xy")
	want(t, "twice", h.Create("a"), api.ErrTwice)
	holds(t, "kept", h, "a", "xy")
}

func TestP1_1Append(t *testing.T) {
	h := filled(t, 5, "a", "xy", "b", "z")
	want(t, "no file", h.Append("c", []byte("x")), api.ErrNone)
	want(t, "no file, and too much", h.Append("c", make([]byte, 100)), api.ErrNone)
	want(t, "no name", h.Append("", nil), api.ErrNone)
	want(t, "one too many", h.Append("a", []byte("123")), api.ErrFull)
	holds(t, "nothing of it", h, "a", "xy", "b", "z")
	want(t, "up to the limit", h.Append("a", []byte("12")), api.OK)
	want(t, "nothing at the limit", h.Append("b", nil), api.OK)
	want(t, "one at the limit", h.Append("b", []byte("3")), api.ErrFull)
	holds(t, "grown", h, "a", "xy12", "b", "z")
	if h.Used() != 5 {
		t.Error(h.Used())
	}
}

func TestP1_1Limit(t *testing.T) {
	for _, n := range []int{0, -1, math.MinInt} {
		h := New(n)
		h.Create("a")
		want(t, "no room", h.Append("a", []byte("x")), api.ErrFull)
		want(t, "nothing", h.Append("a", nil), api.OK)
	}
	h := filled(t, math.MaxInt, "a", "xyz")
	h.Limit(2)
	holds(t, "kept beyond the limit", h, "a", "xyz")
	want(t, "beyond", h.Append("a", []byte("1")), api.ErrFull)
	want(t, "nothing beyond", h.Append("a", nil), api.ErrFull)
	h.Limit(4)
	want(t, "raised", h.Append("a", []byte("1")), api.OK)
	want(t, "raised by one", h.Append("a", []byte("2")), api.ErrFull)
	h.Limit(-7)
	want(t, "below 0 is 0", h.Append("a", nil), api.ErrFull)
	want(t, "remove", h.Remove("a"), api.OK)
	want(t, "create", h.Create("b"), api.OK)
	want(t, "0 holds nothing", h.Append("b", nil), api.OK)
	want(t, "0 holds not one", h.Append("b", []byte("1")), api.ErrFull)
}

func TestP1_1RoomComesBack(t *testing.T) {
	h := filled(t, 4, "a", "xy", "b", "zw")
	want(t, "rename over", h.Rename("a", "b"), api.OK)
	if h.Used() != 2 {
		t.Error("used", h.Used())
	}
	want(t, "room of the replaced", h.Append("b", []byte("12")), api.OK)
	want(t, "remove", h.Remove("b"), api.OK)
	if h.Used() != 0 {
		t.Error("used", h.Used())
	}
}

func TestP1_1ReadAndSize(t *testing.T) {
	h := filled(t, 99, "a", "xyz", "e", "")
	p, e := h.Read("a")
	if string(p) != "xyz" || e != api.OK || h.Reads() != 3 {
		t.Error(p, e, h.Reads())
	}
	n, e := h.Size("a")
	if n != 3 || e != api.OK || h.Reads() != 3 {
		t.Error(n, e, h.Reads())
	}
	p, e = h.Read("e")
	if len(p) != 0 || e != api.OK || h.Reads() != 3 {
		t.Error(p, e, h.Reads())
	}
	p, e = h.Read("b")
	if p != nil || e != api.ErrNone || h.Reads() != 3 {
		t.Error(p, e, h.Reads())
	}
	n, e = h.Size("b")
	if n != 0 || e != api.ErrNone {
		t.Error(n, e)
	}
	h.Read("a")
	if h.Reads() != 6 {
		t.Error(h.Reads())
	}
}

func TestP1_1Rename(t *testing.T) {
	h := filled(t, 99, "a", "1", "b", "2", "c", "3")
	long := strings.Repeat("n", api.MaxName)
	want(t, "to none", h.Rename("a", ""), api.ErrArg)
	want(t, "to too long", h.Rename("a", long+"n"), api.ErrArg)
	want(t, "both wrong", h.Rename("z", ""), api.ErrArg)
	want(t, "none to itself", h.Rename("", ""), api.ErrArg)
	want(t, "from none", h.Rename("z", "a"), api.ErrNone)
	want(t, "from a wrong name", h.Rename("", "a"), api.ErrNone)
	want(t, "missing to itself", h.Rename("z", "z"), api.ErrNone)
	holds(t, "nothing yet", h, "a", "1", "b", "2", "c", "3")
	want(t, "itself", h.Rename("a", "a"), api.OK)
	want(t, "replacing", h.Rename("a", "b"), api.OK)
	want(t, "new name", h.Rename("c", long), api.OK)
	holds(t, "renamed", h, "b", "1", long, "3")
	want(t, "append to it", h.Append("b", []byte("+")), api.OK)
	holds(t, "renamed", h, "b", "1+", long, "3")
}

func TestP1_1Remove(t *testing.T) {
	h := filled(t, 99, "a", "1", "b", "2")
	want(t, "none", h.Remove("z"), api.ErrNone)
	want(t, "no name", h.Remove(""), api.ErrNone)
	want(t, "a", h.Remove("a"), api.OK)
	want(t, "a again", h.Remove("a"), api.ErrNone)
	holds(t, "removed", h, "b", "2")
	want(t, "made again", h.Create("a"), api.OK)
	holds(t, "made again", h, "a", "", "b", "2")
}

func TestP1_1Names(t *testing.T) {
	h := New(9)
	if len(h.Names()) != 0 {
		t.Error(h.Names())
	}
	for _, name := range []string{"b", "a", "log.10", "log.2", "B", "ab", "\xff"} {
		h.Create(name)
	}
	l := []string{"B", "a", "ab", "b", "log.10", "log.2", "\xff"}
	if !slices.Equal(h.Names(), l) {
		t.Errorf("%q", h.Names())
	}
}

func TestP1_2SyncMakesContentsDurable(t *testing.T) {
	h := filled(t, 99, "a", "1", "b", "2")
	h.Append("a", []byte("+"))
	h.Append("b", []byte("-"))
	want(t, "none", h.Sync("z"), api.ErrNone)
	holds(t, "not yet", h.Crash(9, nil), "a", "1", "b", "2")
	want(t, "a", h.Sync("a"), api.OK)
	holds(t, "a alone", h.Crash(0, nil), "a", "1+", "b", "2")
}

func TestP1_2SyncMakesNamesDurable(t *testing.T) {
	h := filled(t, 99, "a", "1", "b", "2", "c", "3")
	h.Create("d")
	h.Rename("a", "e")
	h.Remove("b")
	want(t, "none", h.Sync("z"), api.ErrNone)
	holds(t, "not yet", h.Crash(0, nil), "a", "1", "b", "2", "c", "3")
	want(t, "another file", h.Sync("c"), api.OK)
	holds(t, "names", h.Crash(0, nil), "c", "3", "d", "", "e", "1")
	h.Remove("e")
	holds(t, "a later one", h.Crash(0, nil), "c", "3", "d", "", "e", "1")
	holds(t, "a later one kept", h.Crash(1, nil), "c", "3", "d", "")
}

// calls lists one call of each kind that Arm stops, each fit to succeed in turn.
func calls(h *Host) []api.Errno {
	return []api.Errno{
		h.Create("n"), h.Append("n", []byte("x")), h.Sync("n"), h.Rename("n", "m"), h.Remove("m"),
	}
}

func TestP1_2Arm(t *testing.T) {
	for n := range 7 {
		h := filled(t, 99, "a", "1")
		h.Arm(n)
		for i, e := range calls(h) {
			if i < n {
				want(t, "before", e, api.OK)
			} else {
				want(t, "after", e, api.ErrOff)
			}
		}
	}
}

func TestP1_2ArmCountsFailedCallsAndNoLooks(t *testing.T) {
	h := filled(t, 99, "a", "1")
	h.Arm(3)
	h.Read("a")
	h.Size("a")
	want(t, "first", h.Create(""), api.ErrArg)
	want(t, "second", h.Remove("z"), api.ErrNone)
	want(t, "third", h.Rename("a", "a"), api.OK)
	want(t, "off ahead of ErrArg", h.Create(""), api.ErrOff)
	want(t, "off ahead of ErrNone", h.Append("z", nil), api.ErrOff)
	want(t, "off ahead of OK", h.Rename("a", "a"), api.ErrOff)
	want(t, "sync", h.Sync("a"), api.ErrOff)
	want(t, "remove", h.Remove("a"), api.ErrOff)
	holds(t, "no effect, and still read", h, "a", "1")
	if n, e := h.Size("a"); n != 1 || e != api.OK {
		t.Error(n, e)
	}
	h.Arm(1)
	want(t, "power again", h.Append("a", []byte("2")), api.OK)
	want(t, "and off again", h.Append("a", []byte("3")), api.ErrOff)
	h.Arm(math.MinInt)
	for range 100 {
		want(t, "never", h.Sync("a"), api.OK)
	}
	holds(t, "grown", h, "a", "12")
}

func TestP1_2ArmedSyncHasNoEffect(t *testing.T) {
	h := filled(t, 99, "a", "1")
	h.Append("a", []byte("2"))
	h.Create("b")
	h.Arm(0)
	want(t, "sync", h.Sync("a"), api.ErrOff)
	holds(t, "nothing durable", h.Crash(0, nil), "a", "1")
}

func TestP1_2Fault(t *testing.T) {
	for n := range 9 {
		h := filled(t, 99, "a", "1")
		h.Fault(n)
		for i := range 10 {
			e := oneOf(h, i)
			if i == n {
				want(t, "the one", e, api.ErrIO)
			} else {
				want(t, "another", e, api.ErrNone)
			}
		}
	}
}

// oneOf makes a call of some kind on a file that is not there.
func oneOf(h *Host, i int) api.Errno {
	switch i % 6 {
	case 0:
		_, e := h.Read("z")
		return e
	case 1:
		return h.Append("z", nil)
	case 2:
		_, e := h.Size("z")
		return e
	case 3:
		return h.Sync("z")
	case 4:
		return h.Rename("z", "y")
	}
	return h.Remove("z")
}

func TestP1_2FaultHasNoEffect(t *testing.T) {
	h := filled(t, 99, "a", "1")
	h.Append("a", []byte("2"))
	h.Fault(0)
	want(t, "create", h.Create("b"), api.ErrIO)
	h.Fault(0)
	want(t, "ahead of ErrArg", h.Create(""), api.ErrIO)
	h.Fault(0)
	want(t, "append", h.Append("a", []byte("3")), api.ErrIO)
	h.Fault(0)
	want(t, "sync", h.Sync("a"), api.ErrIO)
	h.Fault(0)
	want(t, "rename", h.Rename("a", "c"), api.ErrIO)
	h.Fault(0)
	want(t, "remove", h.Remove("a"), api.ErrIO)
	h.Fault(0)
	if p, e := h.Read("a"); p != nil || e != api.ErrIO || h.Reads() != 0 {
		t.Error(p, e, h.Reads())
	}
	h.Fault(0)
	if n, e := h.Size("a"); n != 0 || e != api.ErrIO {
		t.Error(n, e)
	}
	holds(t, "as before", h, "a", "12")
	holds(t, "not synced", h.Crash(0, nil), "a", "1")
	h.Fault(0)
	h.Fault(-1)
	want(t, "never", h.Sync("a"), api.OK)
}

func TestP1_2BothApply(t *testing.T) {
	h := filled(t, 99, "a", "1")
	h.Arm(0)
	h.Fault(0)
	want(t, "off is told", h.Sync("a"), api.ErrOff)
	if _, e := h.Read("a"); e != api.OK {
		t.Error("the fault was used up", e)
	}
	h.Fault(2)
	want(t, "counts for the fault", h.Sync("a"), api.ErrOff)
	want(t, "counts for the fault", h.Sync("a"), api.ErrOff)
	if _, e := h.Read("a"); e != api.ErrIO {
		t.Error(e)
	}
	h.Arm(1)
	h.Fault(0)
	want(t, "counts for the power", h.Sync("a"), api.ErrIO)
	want(t, "off", h.Sync("a"), api.ErrOff)
}

func TestP1_3Keep(t *testing.T) {
	h := filled(t, 99, "a", "1", "b", "2")
	h.Rename("b", "b")
	h.Create("c")
	h.Remove("q")
	h.Rename("a", "b")
	h.Remove("b")
	h.Create("b")
	states := [][]string{
		{"a", "1", "b", "2"},
		{"a", "1", "b", "2", "c", ""},
		{"b", "1", "c", ""},
		{"c", ""},
		{"b", "", "c", ""},
	}
	for keep, l := range states {
		holds(t, "kept", h.Crash(keep, nil), l...)
	}
	holds(t, "more than there are", h.Crash(math.MaxInt, nil), states[4]...)
	holds(t, "below 0", h.Crash(-1, nil), states[0]...)
	holds(t, "least", h.Crash(math.MinInt, nil), states[0]...)
	holds(t, "the host itself", h, states[4]...)
}

func TestP1_3Tails(t *testing.T) {
	h := filled(t, 99, "a", "1", "b", "2", "c", "3")
	for _, name := range h.Names() {
		h.Append(name, []byte("xyz"))
	}
	for _, c := range []struct {
		tails []int
		l     []string
	}{
		{nil, []string{"1", "2", "3"}},
		{[]int{}, []string{"1", "2", "3"}},
		{[]int{0}, []string{"1", "2", "3"}},
		{[]int{1}, []string{"1x", "2x", "3x"}},
		{[]int{2, 0}, []string{"1xy", "2", "3xy"}},
		{[]int{1, 2, 3, 0}, []string{"1x", "2xy", "3xyz"}},
		{[]int{-1, 4, math.MaxInt}, []string{"1", "2xyz", "3xyz"}},
		{[]int{math.MinInt}, []string{"1", "2", "3"}},
	} {
		holds(t, "tails", h.Crash(0, c.tails), "a", c.l[0], "b", c.l[1], "c", c.l[2])
	}
}

func TestP1_3FilesAreNumberedAsFound(t *testing.T) {
	h := filled(t, 99, "b", "", "c", "")
	h.Append("b", []byte("xyz"))
	h.Append("c", []byte("xyz"))
	h.Create("a")
	h.Append("a", []byte("uvw"))
	h.Rename("b", "d")
	tails := []int{1, 2, 3}
	holds(t, "0", h.Crash(0, tails), "b", "x", "c", "xy")
	holds(t, "1", h.Crash(1, tails), "a", "u", "b", "xy", "c", "xyz")
	holds(t, "2", h.Crash(2, tails), "a", "u", "c", "xy", "d", "xyz")
}

func TestP1_3RemovedFileComesBack(t *testing.T) {
	h := New(3)
	h.Create("z")
	h.Sync("z")
	h.Create("a")
	h.Append("a", []byte("xyz"))
	h.Remove("a")
	h.Append("z", []byte("123"))
	c := h.Crash(1, []int{2, 3})
	holds(t, "come back", c, "a", "xy", "z", "123")
	want(t, "beyond its limit", c.Append("a", []byte("1")), api.ErrFull)
}

func TestP1_3NewHost(t *testing.T) {
	h := filled(t, 4, "a", "1")
	h.Append("a", []byte("23"))
	h.Create("b")
	h.Arm(0)
	h.Fault(0)
	h.Read("a")
	h.Read("a")
	h.Fault(0)
	c := h.Crash(1, []int{1})
	if c.Reads() != 0 || h.Reads() != 3 {
		t.Error("reads", c.Reads(), h.Reads())
	}
	holds(t, "all durable", c.Crash(0, nil), "a", "12", "b", "")
	want(t, "no fault, no arm", c.Append("a", []byte("xy")), api.OK)
	want(t, "same limit", c.Append("a", []byte("z")), api.ErrFull)
	holds(t, "a crash after it", c.Crash(0, nil), "a", "12", "b", "")
	want(t, "remove", c.Remove("b"), api.OK)
	holds(t, "a crash after it", c.Crash(0, []int{1}), "a", "12x", "b", "")
	want(t, "old host is off", h.Sync("a"), api.ErrOff)
	h.Arm(-1)
	holds(t, "old host", h, "a", "123", "b", "")
	holds(t, "old host crashes as before", h.Crash(0, nil), "a", "1")
}

func TestCopy(t *testing.T) {
	h := filled(t, 9, "a", "1", "b", "2")
	h.Append("a", []byte("x"))
	h.Rename("a", "c")
	h.Create("d")
	h.Append("d", []byte("yy"))
	h.Read("b")
	h.Arm(3)
	h.Fault(3)
	c := h.Copy()
	if c.Reads() != 1 || c.Used() != h.Used() || !Same(c, h) {
		t.Error("copy", c.Reads(), c.Used())
	}
	for i := range 4 {
		if a, b := h.Crash(i, []int{1}), c.Crash(i, []int{1}); !Same(a, b) {
			t.Error("crash", i, a.Names(), b.Names())
		}
	}
	want(t, "append", c.Append("c", []byte("z")), api.OK)
	want(t, "sync", c.Sync("c"), api.OK)
	holds(t, "one file under its old and new name", c.Crash(0, nil), "b", "2", "c", "1xz", "d", "")
	want(t, "limit", c.Append("d", []byte("12345")), api.ErrFull)
	want(t, "off, and the fault", c.Sync("c"), api.ErrOff)
	h.Fault(-1)
	want(t, "the first is on", h.Append("c", []byte("q")), api.OK)
	holds(t, "the first", h, "b", "2", "c", "1xq", "d", "yy")
	holds(t, "the first after a crash", h.Crash(0, nil), "a", "1", "b", "2")
	holds(t, "the copy", c, "b", "2", "c", "1xz", "d", "yy")
}

func TestSame(t *testing.T) {
	a := filled(t, 9, "a", "1", "b", "2")
	for i, c := range []struct {
		b    *Host
		same bool
	}{
		{a, true},
		{filled(t, 5, "b", "2", "a", "1"), true},
		{filled(t, 9, "a", "1"), false},
		{filled(t, 9, "a", "1", "b", "2", "c", ""), false},
		{filled(t, 9, "a", "1", "c", "2"), false},
		{filled(t, 9, "a", "1", "b", "3"), false},
		{filled(t, 9, "a", "1", "b", "23"), false},
		{New(9), false},
		{nil, false},
	} {
		if Same(a, c.b) != c.same || Same(c.b, a) != c.same {
			t.Error(i)
		}
	}
	if !Same(nil, nil) || !Same(New(1), New(2)) || Same(nil, New(1)) {
		t.Error("nil and empty hosts")
	}
}

func TestNilHost(t *testing.T) {
	var h *Host
	for _, e := range calls(h) {
		want(t, "nil", e, api.ErrNone)
	}
	want(t, "nil, wrong name", h.Create(""), api.ErrNone)
	if p, e := h.Read("a"); p != nil || e != api.ErrNone {
		t.Error(p, e)
	}
	if n, e := h.Size("a"); n != 0 || e != api.ErrNone {
		t.Error(n, e)
	}
	h.Arm(0)
	h.Fault(0)
	h.Limit(0)
	if len(h.Names()) != 0 || h.Used() != 0 || h.Reads() != 0 || h.Copy() != nil || h.Crash(1, []int{1}) != nil {
		t.Error("nil host")
	}
}

func TestMemory(t *testing.T) {
	h := New(99)
	h.Create("a")
	back := []byte("xyz???")
	p := back[:3]
	h.Append("a", p)
	h.Append("a", p)
	if string(back) != "xyz???" {
		t.Errorf("argument %q", back)
	}
	clear(back)
	holds(t, "argument overwritten", h, "a", "xyzxyz")
	c := h.Copy()
	h.Sync("a")
	d := h.Crash(0, nil)
	q, _ := h.Read("a")
	clear(q[:cap(q)])
	l := h.Names()
	l[0] = "q"
	h.Append("a", []byte("1"))
	c.Append("a", []byte("2"))
	d.Append("a", []byte("3"))
	holds(t, "result overwritten", h, "a", "xyzxyz1")
	holds(t, "copy", c, "a", "xyzxyz2")
	holds(t, "crashed", d, "a", "xyzxyz3")
	tails := []int{1, 2}
	h.Crash(0, tails)
	if !slices.Equal(tails, []int{1, 2}) {
		t.Error(tails)
	}
}
