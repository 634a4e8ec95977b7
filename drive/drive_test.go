package drive_test

import (
	"bytes"
	"math/rand"
	"testing"

	"kotatsu/api"
	"kotatsu/drive"
)

// clocks lets n cycles go by, and returns how many bytes passed in them.
func clocks(d *drive.Drive, n int) int {
	passed := 0
	for range n {
		if d.Clock() {
			passed++
		}
	}
	return passed
}

// with returns a drive with a side.
func with(t *testing.T, side ...byte) *drive.Drive {
	t.Helper()
	d := drive.New()
	if !d.Insert(side) {
		t.Fatal("the side does not go in")
	}
	return d
}

// running returns a drive with a side, whose motor has just been turned on.
func running(t *testing.T, side ...byte) *drive.Drive {
	t.Helper()
	d := with(t, side...)
	d.Motor(true)
	return d
}

// at returns a running drive in whose last Clock the byte at an offset has passed.
func at(t *testing.T, offset int, side ...byte) *drive.Drive {
	t.Helper()
	d := running(t, side...)
	if n := clocks(d, drive.Wait+drive.Byte*(offset+1)); n != offset+1 {
		t.Fatal(n, "bytes passed")
	}
	return d
}

// holds fails unless the drive has just this side, or none.
func holds(t *testing.T, what string, d *drive.Drive, side ...byte) {
	t.Helper()
	if !bytes.Equal(d.Side(), side) {
		t.Errorf("%s: the side is %v, want %v", what, d.Side(), side)
	}
	if d.Has() != (len(side) > 0) {
		t.Errorf("%s: Has is %v with %v", what, d.Has(), side)
	}
}

// gets fails unless Get returns b.
func gets(t *testing.T, what string, d *drive.Drive, b byte) {
	t.Helper()
	if d.Get() != b {
		t.Errorf("%s: Get is %d, want %d", what, d.Get(), b)
	}
}

// lasts fails unless Last returns these.
func lasts(t *testing.T, what string, d *drive.Drive, offset int, b byte, ok bool) {
	t.Helper()
	o, c, is := d.Last()
	if o != offset || c != b || is != ok {
		t.Errorf("%s: Last is %d %d %v, want %d %d %v", what, o, c, is, offset, b, ok)
	}
}

func TestP17_1New(t *testing.T) {
	d := drive.New()
	holds(t, "new", d)
	if d.Eject() != nil || d.Ready() || d.At() != 0 || d.Clock() || d.Get() != 0 || d.Lay(1) {
		t.Error("new")
	}
	lasts(t, "new", d, 0, 0, false)
	d = with(t, 1, 2)
	if clocks(d, 3*drive.Wait) != 0 || d.Ready() {
		t.Error("the motor is on from the start")
	}
}

func TestP17_1Insert(t *testing.T) {
	d := drive.New()
	if d.Insert(nil) || d.Insert([]byte{}) {
		t.Error("an empty side goes in")
	}
	holds(t, "after an empty side", d)
	if !d.Insert([]byte{1, 2}) {
		t.Error("a side does not go in")
	}
	holds(t, "after Insert", d, 1, 2)
	if d.Insert([]byte{3}) || d.Insert([]byte{1, 2}) || d.Insert(nil) {
		t.Error("a second side goes in")
	}
	holds(t, "after a second side", d, 1, 2)
}

func TestP17_1Size(t *testing.T) {
	for _, n := range []int{1, 2, api.Side, api.Side + 1, api.Quick - 1, api.Quick} {
		side := make([]byte, n)
		rand.New(rand.NewSource(int64(n))).Read(side)
		d := drive.New()
		if !d.Insert(side) || !d.Has() || !bytes.Equal(d.Side(), side) {
			t.Error(n, "bytes do not go in")
		}
		if !bytes.Equal(d.Eject(), side) {
			t.Error(n, "bytes do not come out")
		}
	}
	for _, n := range []int{api.Quick + 1, api.Quick + 2, 2 * api.Quick} {
		d := drive.New()
		if d.Insert(make([]byte, n)) {
			t.Error(n, "bytes go in")
		}
		holds(t, "after too many bytes", d)
		if !d.Insert([]byte{4}) {
			t.Error("no side goes in after one that is too long")
		}
	}
}

func TestP17_1Eject(t *testing.T) {
	d := with(t, 1, 2, 3)
	if !bytes.Equal(d.Eject(), []byte{1, 2, 3}) {
		t.Error("Eject")
	}
	holds(t, "after Eject", d)
	if len(d.Eject()) != 0 {
		t.Error("a second Eject returns something")
	}
	if !d.Insert([]byte{4}) {
		t.Error("no side goes in after Eject")
	}
	holds(t, "after another Insert", d, 4)
	d = running(t, 1, 2)
	clocks(d, drive.Wait+drive.Byte+1)
	if !bytes.Equal(d.Eject(), []byte{1, 2}) || d.Has() || d.Ready() || d.At() != 0 {
		t.Error("Eject while the side passes")
	}
}

func TestP17_1Written(t *testing.T) {
	d := at(t, 1, 1, 2, 3)
	d.Lay(9)
	holds(t, "written", d, 1, 9, 3)
	if !bytes.Equal(d.Eject(), []byte{1, 9, 3}) {
		t.Error("Eject does not return what was written")
	}
}

func TestP17_1Protect(t *testing.T) {
	d := at(t, 0, 1, 2)
	d.Protect(false)
	if !d.Lay(5) {
		t.Error("not protected")
	}
	d.Protect(true)
	if d.Lay(6) {
		t.Error("protected")
	}
	d.Protect(true)
	if d.Lay(7) {
		t.Error("protected twice")
	}
	holds(t, "protected", d, 5, 2)
	d.Protect(false)
	if !d.Lay(8) {
		t.Error("no longer protected")
	}
	holds(t, "no longer protected", d, 8, 2)
}

func TestP17_1ProtectStays(t *testing.T) {
	d := drive.New()
	d.Protect(true)
	d.Insert([]byte{1})
	d.Motor(true)
	clocks(d, drive.Wait+drive.Byte)
	gets(t, "protected, read", d, 1)
	if d.Lay(2) {
		t.Error("protected before Insert")
	}
	d.Eject()
	d.Insert([]byte{3})
	clocks(d, drive.Wait+drive.Byte)
	if d.Lay(4) {
		t.Error("protected before another side")
	}
	holds(t, "protected", d, 3)
}

func TestMemory(t *testing.T) {
	whole := []byte{1, 2, 3, 4, 5}
	d := drive.New()
	d.Insert(whole[:3])
	d.Motor(true)
	whole[0], whole[3] = 77, 78
	holds(t, "the argument changed", d, 1, 2, 3)
	clocks(d, drive.Wait+drive.Byte)
	d.Lay(9)
	if !bytes.Equal(whole, []byte{77, 2, 3, 78, 5}) {
		t.Error("Lay changes the argument", whole)
	}
	first, second := d.Side(), d.Side()
	spoil(first)
	if !bytes.Equal(second, []byte{9, 2, 3}) {
		t.Error("two results of Side share memory")
	}
	holds(t, "a result of Side changed", d, 9, 2, 3)
	c := d.Copy()
	out := d.Eject()
	spoil(second)
	if !bytes.Equal(out, []byte{9, 2, 3}) {
		t.Error("the results of Side and Eject share memory")
	}
	spoil(out)
	holds(t, "the result of Eject changed", c, 9, 2, 3)
	d.Insert([]byte{4})
	holds(t, "the result of Eject changed", d, 4)
}

// spoil overwrites a slice, and what its capacity holds beyond it.
func spoil(b []byte) {
	b = b[:cap(b)]
	for i := range b {
		b[i] = 0xee
	}
}

func TestP17_3Copy(t *testing.T) {
	d := at(t, 1, 1, 2, 3)
	d.Lay(7)
	c := d.Copy()
	holds(t, "copy", c, 1, 7, 3)
	gets(t, "copy", c, 7)
	lasts(t, "copy", c, 1, 7, true)
	if !c.Ready() || c.At() != 2 {
		t.Error("copy")
	}
	if !c.Lay(8) {
		t.Error("Lay of the copy")
	}
	holds(t, "the copy was written", c, 1, 8, 3)
	holds(t, "the copy was written", d, 1, 7, 3)
	lasts(t, "the copy was written", d, 1, 7, true)
	c.Protect(true)
	if !d.Lay(6) {
		t.Error("the copy was protected")
	}
	holds(t, "the copy was protected", c, 1, 8, 3)
	if clocks(c, drive.Byte) != 1 || c.Get() != 3 || d.Get() != 6 {
		t.Error("the copy went on")
	}
	if clocks(d, drive.Byte-1) != 0 || !d.Clock() || d.Get() != 3 {
		t.Error("the copy went on ahead of it")
	}
	c.Eject()
	c.Motor(false)
	holds(t, "the copy is empty", d, 1, 6, 3)
	if clocks(d, drive.Wait+drive.Byte) != 1 || d.Get() != 1 {
		t.Error("the copy was turned off")
	}
}

func TestP17_3CopyOfEmpty(t *testing.T) {
	d := drive.New()
	c := d.Copy()
	c.Insert([]byte{1})
	c.Motor(true)
	holds(t, "the copy has a side", d)
	if clocks(c, drive.Wait+drive.Byte) != 1 {
		t.Error("the copy does not run")
	}
	d.Insert([]byte{2})
	if clocks(d, 2*drive.Wait) != 0 {
		t.Error("the copy's motor")
	}
	holds(t, "each has a side", c, 1)
}

func TestP17_3Nil(t *testing.T) {
	var d *drive.Drive
	d.Protect(true)
	d.Motor(true)
	d.Motor(false)
	if d.Insert([]byte{1}) || d.Insert(nil) || d.Has() || d.Ready() || d.Clock() || d.Lay(1) {
		t.Error("a nil drive says true")
	}
	if d.Eject() != nil || d.Side() != nil || d.Copy() != nil || d.At() != 0 || d.Get() != 0 {
		t.Error("a nil drive has something")
	}
	lasts(t, "nil", d, 0, 0, false)
}
