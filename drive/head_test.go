package drive_test

import (
	"math/rand"
	"testing"

	"kotatsu/api"
	"kotatsu/drive"
)

// begins fails unless the head begins to return now, to a side that starts with b.
func begins(t *testing.T, what string, d *drive.Drive, b byte) {
	t.Helper()
	for i := 1; i <= drive.Wait+drive.Byte; i++ {
		if d.Ready() != (i > drive.Wait) || d.At() != 0 {
			t.Fatalf("%s: before Clock %d Ready is %v, At is %d", what, i, d.Ready(), d.At())
		}
		if d.Clock() != (i == drive.Wait+drive.Byte) {
			t.Fatalf("%s: Clock %d", what, i)
		}
	}
	gets(t, what, d, b)
}

func TestP17_2Numbers(t *testing.T) {
	if drive.Wait != 4000 || drive.Byte != 149 {
		t.Error(drive.Wait, drive.Byte)
	}
}

func TestP17_2Example(t *testing.T) {
	d := running(t, 1, 2)
	for i := 1; i <= 4298; i++ {
		if d.Clock() != (i == 4149 || i == 4298) {
			t.Error("Clock", i)
		}
		switch i {
		case 4149:
			gets(t, "the first byte", d, 1)
		case 4298:
			gets(t, "the second byte", d, 2)
		default:
			gets(t, "no byte", d, 0)
		}
	}
}

func TestP17_2Rounds(t *testing.T) {
	for _, side := range [][]byte{{5}, {1, 2}, {9, 0, 255, 9, 3}} {
		d := running(t, side...)
		for round := range 3 {
			for i, b := range side {
				if i == 0 {
					begins(t, "a round", d, b)
				} else if clocks(d, drive.Byte-1) != 0 || !d.Ready() || d.At() != i || !d.Clock() {
					t.Fatal(round, "byte", i, "of", side)
				}
				gets(t, "a byte", d, b)
				if i < len(side)-1 && (!d.Ready() || d.At() != i+1) {
					t.Error(round, "At is", d.At(), "behind byte", i, "of", side)
				}
			}
			if d.Ready() || d.At() != 0 {
				t.Error(round, "the last byte has passed")
			}
		}
	}
}

func TestP17_2Longest(t *testing.T) {
	side := make([]byte, api.Quick)
	rand.New(rand.NewSource(1)).Read(side)
	d := running(t, side...)
	if clocks(d, drive.Wait) != 0 {
		t.Error("a byte passes on the way to the start")
	}
	for i, b := range side {
		if d.At() != i || clocks(d, drive.Byte-1) != 0 || !d.Clock() || d.Get() != b {
			t.Fatal("byte", i)
		}
	}
	begins(t, "behind the last byte", d, side[0])
}

func TestP17_2MotorFirst(t *testing.T) {
	d := drive.New()
	d.Motor(true)
	if clocks(d, 2*(drive.Wait+drive.Byte)) != 0 || d.Ready() {
		t.Error("bytes pass without a side")
	}
	d.Insert([]byte{6, 7})
	begins(t, "Insert while the motor is on", d, 6)
}

func TestP17_2SideFirst(t *testing.T) {
	d := with(t, 6, 7)
	if clocks(d, 2*(drive.Wait+drive.Byte)) != 0 || d.Ready() || d.At() != 0 {
		t.Error("bytes pass while the motor is off")
	}
	d.Motor(true)
	begins(t, "the motor is turned on", d, 6)
}

// turns are numbers of Clocks since the head began to return, at which something may happen.
func turns() []int {
	return []int{
		0, 1, drive.Byte, drive.Wait - 1, drive.Wait, drive.Wait + 1,
		drive.Wait + drive.Byte - 1, drive.Wait + drive.Byte, drive.Wait + drive.Byte + 1,
		drive.Wait + 2*drive.Byte - 1, drive.Wait + 2*drive.Byte, drive.Wait + 3*drive.Byte,
	}
}

func TestP17_2MotorAgain(t *testing.T) {
	for _, n := range turns() {
		for _, off := range []int{0, 1, 5000} {
			d := running(t, 6, 7, 8)
			clocks(d, n)
			d.Motor(false)
			if d.Ready() || d.At() != 0 || clocks(d, off) != 0 || d.Ready() || d.At() != 0 {
				t.Error("turned off after", n)
			}
			d.Motor(true)
			begins(t, "turned on again", d, 6)
		}
	}
}

func TestP17_2MotorSame(t *testing.T) {
	for _, n := range turns() {
		d, same := running(t, 6, 7, 8), running(t, 6, 7, 8)
		clocks(d, n)
		clocks(same, n)
		d.Motor(true)
		for i := range 2 * drive.Wait {
			if d.Ready() != same.Ready() || d.At() != same.At() || d.Get() != same.Get() || d.Clock() != same.Clock() {
				t.Fatal("turned on twice after", n, "Clocks, then", i)
			}
		}
	}
	d := with(t, 6)
	d.Motor(false)
	if clocks(d, 2*drive.Wait) != 0 {
		t.Error("turned off twice")
	}
}

func TestP17_2EjectAgain(t *testing.T) {
	for _, n := range turns() {
		for _, out := range []int{0, 1, 5000} {
			d := running(t, 6, 7, 8)
			clocks(d, n)
			d.Eject()
			if d.Ready() || d.At() != 0 || clocks(d, out) != 0 || d.Ready() || d.At() != 0 {
				t.Error("ejected after", n)
			}
			d.Insert([]byte{4, 5})
			begins(t, "inserted again", d, 4)
		}
	}
}

func TestP17_2EjectMotor(t *testing.T) {
	d := at(t, 1, 6, 7, 8)
	d.Eject()
	d.Motor(false)
	d.Insert([]byte{4, 5})
	if clocks(d, 2*drive.Wait) != 0 {
		t.Error("turned off without a side")
	}
	d.Motor(true)
	begins(t, "turned off without a side", d, 4)
	d.Eject()
	d.Motor(false)
	d.Motor(true)
	d.Insert([]byte{3})
	begins(t, "turned off and on without a side", d, 3)
}

func TestP17_2Refused(t *testing.T) {
	for _, side := range [][]byte{nil, {1}, {6, 7, 8}, make([]byte, api.Quick+1)} {
		d := at(t, 0, 6, 7, 8)
		d.Insert(side)
		gets(t, "a side was refused", d, 6)
		if !d.Ready() || d.At() != 1 || clocks(d, drive.Byte) != 1 || d.Get() != 7 {
			t.Error("a side that is refused moves the head")
		}
	}
}

func TestP17_2Unmoved(t *testing.T) {
	d := running(t, 6, 7, 8)
	for i := 1; i <= drive.Wait+3*drive.Byte; i++ {
		passes := d.Clock()
		d.Lay(byte(i))
		d.Protect(i%5 == 0)
		d.Get()
		d.Side()
		d.Copy().Clock()
		d.Last()
		if passes != (i > drive.Wait && (i-drive.Wait)%drive.Byte == 0) {
			t.Fatal("Clock", i)
		}
	}
}

func TestP17_3Get(t *testing.T) {
	d := at(t, 1, 6, 7, 8)
	gets(t, "passed", d, 7)
	gets(t, "asked twice", d, 7)
	d.Motor(true)
	gets(t, "the motor is on already", d, 7)
	d.Protect(true)
	gets(t, "protected", d, 7)
	d.Clock()
	gets(t, "a Clock later", d, 0)
	d = at(t, 2, 6, 7, 8)
	gets(t, "the last byte", d, 8)
	d.Clock()
	gets(t, "a Clock behind the last byte", d, 0)
}

func TestP17_3GetMotor(t *testing.T) {
	d := at(t, 1, 6, 7, 8)
	d.Motor(false)
	gets(t, "turned off", d, 7)
	d.Motor(true)
	gets(t, "turned on", d, 7)
	d.Motor(false)
	d.Clock()
	gets(t, "a Clock while it is off", d, 0)
}

func TestP17_3GetEjected(t *testing.T) {
	d := at(t, 1, 6, 7, 8)
	d.Eject()
	gets(t, "ejected", d, 0)
	if d.Lay(1) {
		t.Error("Lay without a side")
	}
	d.Insert([]byte{1, 2, 3})
	gets(t, "another side", d, 0)
	if d.Lay(9) {
		t.Error("Lay on a side of which nothing passed")
	}
	holds(t, "another side", d, 1, 2, 3)
	lasts(t, "another side", d, 0, 0, false)
}

func TestP17_3Lay(t *testing.T) {
	for offset := range 3 {
		d := at(t, offset, 6, 7, 8)
		if !d.Lay(100) {
			t.Error("Lay")
		}
		want := []byte{6, 7, 8}
		want[offset] = 100
		holds(t, "written", d, want...)
		gets(t, "written", d, 100)
		lasts(t, "written", d, offset, 100, true)
		if !d.Lay(0) {
			t.Error("Lay of 0")
		}
		want[offset] = 0
		holds(t, "written twice", d, want...)
		gets(t, "written twice", d, 0)
		lasts(t, "written twice", d, offset, 0, true)
	}
}

func TestP17_3LayEvery(t *testing.T) {
	d := at(t, 1, 6, 7, 8)
	for b := range 256 {
		if !d.Lay(byte(b)) {
			t.Error("Lay of", b)
		}
		holds(t, "written", d, 6, byte(b), 8)
		lasts(t, "written", d, 1, byte(b), true)
	}
}

func TestP17_3LayRefused(t *testing.T) {
	d := running(t, 6, 7, 8)
	for i := range drive.Wait + drive.Byte - 1 {
		if d.Lay(1) {
			t.Fatal("Lay before Clock", i+1)
		}
		d.Clock()
	}
	if d.Lay(1) {
		t.Error("Lay before the first byte")
	}
	lasts(t, "refused", d, 0, 0, false)
	d.Clock()
	d.Clock()
	if d.Lay(1) {
		t.Error("Lay behind the first byte")
	}
	lasts(t, "refused", d, 0, 0, false)
	holds(t, "refused", d, 6, 7, 8)
}

func TestP17_3LayMotor(t *testing.T) {
	d := at(t, 1, 6, 7, 8)
	d.Motor(false)
	if !d.Lay(1) {
		t.Error("Lay after the motor was turned off")
	}
	holds(t, "turned off", d, 6, 1, 8)
	lasts(t, "turned off", d, 1, 1, true)
	d.Clock()
	if d.Lay(2) {
		t.Error("Lay while the motor is off")
	}
}

func TestP17_3LayPassesAgain(t *testing.T) {
	d := at(t, 0, 6, 7)
	d.Lay(1)
	clocks(d, drive.Byte)
	d.Lay(2)
	begins(t, "a second round", d, 1)
	clocks(d, drive.Byte)
	gets(t, "a second round", d, 2)
}

func TestP17_3Last(t *testing.T) {
	d := at(t, 2, 6, 7, 8)
	lasts(t, "passed", d, 0, 0, false)
	d.Lay(5)
	lasts(t, "written", d, 2, 5, true)
	lasts(t, "asked twice", d, 2, 5, true)
	d.Protect(true)
	d.Lay(4)
	lasts(t, "a write was refused", d, 2, 5, true)
	d.Motor(false)
	lasts(t, "turned off", d, 2, 5, true)
	d.Motor(true)
	lasts(t, "turned on", d, 2, 5, true)
	d.Eject()
	lasts(t, "ejected", d, 2, 5, true)
	d.Eject()
	lasts(t, "ejected twice", d, 2, 5, true)
	d.Lay(3)
	lasts(t, "a write without a side", d, 2, 5, true)
	d.Insert([]byte{1})
	lasts(t, "another side", d, 2, 5, true)
	d.Clock()
	lasts(t, "a Clock later", d, 0, 0, false)
}

func TestP17_3LastEnds(t *testing.T) {
	d := at(t, 1, 6, 7, 8)
	d.Lay(5)
	d.Clock()
	lasts(t, "a Clock later", d, 0, 0, false)
	d = at(t, 1, 6, 7, 8)
	d.Lay(5)
	d.Motor(false)
	d.Clock()
	lasts(t, "a Clock while the motor is off", d, 0, 0, false)
	d = at(t, 1, 6, 7, 8)
	d.Lay(5)
	d.Eject()
	d.Clock()
	lasts(t, "a Clock without a side", d, 0, 0, false)
	d = at(t, 0, 6, 7, 8)
	d.Lay(5)
	clocks(d, drive.Byte)
	lasts(t, "the next byte passed", d, 0, 0, false)
}
