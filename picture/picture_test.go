package picture_test

import (
	"bytes"
	"testing"

	"kotatsu/picture"
)

// The registers that tests write.
const (
	control = iota
	mask
	status
	spriteAddress
	spriteByte
	offset
	address
	data
)

func clocks(p *picture.Picture, n int) {
	for range n {
		p.Clock()
	}
}

// to goes on until a dot is the next.
func to(p *picture.Picture, line, dot int) {
	for range 2 * 341 * 262 {
		if l, d := p.Dot(); l == line && d == dot {
			return
		}
		p.Clock()
	}
}

// past goes on until a dot has been processed.
func past(p *picture.Picture, line, dot int) {
	to(p, line, dot)
	p.Clock()
}

func put(p *picture.Picture, reg byte, bs ...byte) {
	for _, b := range bs {
		p.Put(reg, b)
	}
}

// at sets V and T, for the data register.
func at(p *picture.Picture, v uint16) {
	p.Get(status)
	put(p, address, byte(v>>8), byte(v))
}

// setSprite writes the four bytes of a sprite.
func setSprite(p *picture.Picture, i int, y, tile, attributes, x byte) {
	p.Put(spriteAddress, byte(4*i))
	put(p, spriteByte, y, tile, attributes, x)
}

// away puts all sprites where no line has them.
func away(p *picture.Picture) {
	for i := range 64 {
		setSprite(p, i, 0xff, 0, 0, 0)
	}
	p.Put(spriteAddress, 0)
}

// flags returns the flags that the status register has, without a change of them.
func flags(p *picture.Picture) byte {
	return p.Copy().Get(status) & 0xe0
}

func TestP15_6Row(t *testing.T) {
	p := picture.New()
	for y := range 240 {
		if row := p.Row(y); len(row) != 256 || !bytes.Equal(row, make([]byte, 256)) {
			t.Fatal(y, row)
		}
	}
	for _, y := range []int{-1, 240, 241, 256, 1000, -240, 1 << 40, -1 << 63} {
		if row := p.Row(y); len(row) != 0 {
			t.Error(y, row)
		}
	}
}

// drawn returns a picture unit whose lines and dots are all of other colours.
func drawn() *picture.Picture {
	p := picture.New()
	for range 241 {
		for range 341 {
			line, dot := p.Dot()
			p.Poke(0x3f00, byte(line*7+dot*3))
			p.Clock()
		}
	}
	return p
}

func TestP15_6Screen(t *testing.T) {
	p := drawn()
	var rows []byte
	for y := range 240 {
		row := p.Row(y)
		for x, b := range row {
			if int(b) != (y*7+(x+1)*3)%64 {
				t.Fatal(y, x, b)
			}
		}
		rows = append(rows, row...)
	}
	if screen := p.Screen(); len(screen) != 61440 || !bytes.Equal(screen, rows) {
		t.Error(len(screen))
	}
	if screen := picture.New().Screen(); !bytes.Equal(screen, make([]byte, 61440)) {
		t.Error("not 0 at first")
	}
}

// TestP15_6LastSet: the pixels stay as they are until they are set again.
func TestP15_6LastSet(t *testing.T) {
	p := drawn()
	first := p.Screen()
	p.Poke(0x3f00, 0x3f)
	to(p, 0, 0)
	if !bytes.Equal(p.Screen(), first) {
		t.Error("set in the blank")
	}
	to(p, 100, 51)
	screen := p.Screen()
	for i := range screen {
		want := first[i]
		if i < 100*256+50 {
			want = 0x3f
		}
		if screen[i] != want {
			t.Fatal(i/256, i%256, screen[i])
		}
	}
}

func fill(b []byte) {
	b = b[:cap(b)]
	for i := range b {
		b[i] = 0xee
	}
}

// TestP15_6Memory: results are new memory.
func TestP15_6Memory(t *testing.T) {
	p := drawn()
	screen, row := p.Screen(), p.Row(7)
	other := p.Row(7)
	fill(row)
	fill(p.Screen())
	if !bytes.Equal(p.Screen(), screen) || !bytes.Equal(other, screen[7*256:8*256]) || !bytes.Equal(p.Row(7), other) {
		t.Error("shared")
	}
	p.Poke(0x3f00, 0x2a)
	to(p, 20, 0)
	if !bytes.Equal(other, screen[7*256:8*256]) {
		t.Error("changed later")
	}
}

func TestP15_6NMI(t *testing.T) {
	p := picture.New()
	past(p, 241, 1)
	for b := range 256 {
		p.Put(control, byte(b))
		if p.NMI() != (b >= 0x80) {
			t.Error(b, p.NMI())
		}
	}
	if !p.NMI() || !p.NMI() {
		t.Error("a look at it has ended it")
	}
	p.Get(status)
	if p.NMI() {
		t.Error("after a look at the status")
	}
	p.Put(control, 0)
	p.Put(control, 0x80)
	if p.NMI() {
		t.Error("without the flag")
	}
}

// scene returns a picture unit with something of everything.
func scene() *picture.Picture {
	p := picture.New()
	for i := range uint16(0x4000) {
		p.Poke(i, byte(i*5+i>>6))
	}
	for i := range 64 {
		setSprite(p, i, byte(i*9), byte(i*3), byte(i*37), byte(i*21))
	}
	p.Put(spriteAddress, 5)
	p.Put(control, 0x90)
	p.Put(mask, 0x1e)
	put(p, offset, 0x4d, 0x23)
	at(p, 0x1234)
	p.Get(data)
	p.Put(address, 0x05)
	return p
}

// told returns all that a picture unit tells.
func told(p *picture.Picture) []byte {
	p = p.Copy()
	b := p.Screen()
	line, dot := p.Dot()
	b = append(b, byte(line), byte(dot), byte(line>>8), byte(dot>>8), byte(p.Frame()))
	if p.NMI() {
		b = append(b, 1)
	}
	for i := range uint16(0x4000) {
		b = append(b, p.Peek(i))
	}
	b = append(b, p.Get(0), p.Get(spriteByte))
	p.Put(address, 0x21)
	b = append(b, p.Get(data), p.Get(data), p.Get(status))
	for i := range 256 {
		p.Put(spriteAddress, byte(i))
		b = append(b, p.Get(spriteByte))
	}
	return b
}

// calls returns all calls that change something.
func calls() map[string]func(*picture.Picture) {
	all := map[string]func(*picture.Picture){
		"Clock":   func(p *picture.Picture) { p.Clock() },
		"Clocks":  func(p *picture.Picture) { clocks(p, 100000) },
		"Upright": func(p *picture.Picture) { p.Upright(true) },
		"Poke":    func(p *picture.Picture) { p.Poke(0, 0xff); p.Poke(0x2000, 0xff); p.Poke(0x3f00, 0xff) },
		"Get 2":   func(p *picture.Picture) { p.Get(2) },
		"Get 4":   func(p *picture.Picture) { p.Get(4) },
		"Get 7":   func(p *picture.Picture) { p.Get(7) },
	}
	for reg := range byte(8) {
		all["Put "+string('0'+rune(reg))] = func(p *picture.Picture) { p.Put(reg, 0x77) }
	}
	return all
}

// TestP15_6Copy: a copy does what the first does, and neither changes with the other.
func TestP15_6Copy(t *testing.T) {
	for what, call := range calls() {
		p := scene()
		to(p, 241, 30)
		before := told(p)
		c := p.Copy()
		if !bytes.Equal(told(c), before) {
			t.Fatal(what, "copy is another")
		}
		call(c)
		if !bytes.Equal(told(p), before) {
			t.Error(what, "of the copy is seen in the first")
		}
		after := told(c)
		if bytes.Equal(after, before) {
			t.Error(what, "has no effect")
		}
		c = p.Copy()
		call(p)
		if !bytes.Equal(told(c), before) {
			t.Error(what, "of the first is seen in the copy")
		}
		if !bytes.Equal(told(p), after) {
			t.Error(what, "is another for the first")
		}
		clocks(p, 50000)
		call(c)
		clocks(c, 50000)
		if !bytes.Equal(told(p), told(c)) {
			t.Error(what, "is another later")
		}
	}
}

// TestP15_6CopyInLine: a copy made within a line has the sprites that were selected.
func TestP15_6CopyInLine(t *testing.T) {
	p := scene()
	to(p, 47, 100)
	c := p.Copy()
	for i := range 64 {
		setSprite(c, i, 0xff, 0, 0, 0)
	}
	to(p, 48, 0)
	to(c, 48, 0)
	if !bytes.Equal(p.Row(47), c.Row(47)) {
		t.Error("47")
	}
}

func TestP15_6Nil(t *testing.T) {
	var p *picture.Picture
	p.Put(0, 0x80)
	p.Put(4, 1)
	p.Put(7, 1)
	p.Clock()
	p.Upright(true)
	p.Upright(false)
	p.Poke(0, 1)
	p.Poke(0x3f00, 1)
	for reg := range 256 {
		if p.Get(byte(reg)) != 0 {
			t.Error(reg)
		}
	}
	if l, d := p.Dot(); l != 0 || d != 0 || p.NMI() || p.Frame() != 0 || p.Peek(0) != 0 || p.Peek(0x3f00) != 0 {
		t.Error(l, d, p.NMI(), p.Frame())
	}
	if p.Row(0) != nil || p.Row(-1) != nil || p.Screen() != nil || p.Copy() != nil {
		t.Error("something")
	}
}

// TestP15_6Apart: units share nothing.
func TestP15_6Apart(t *testing.T) {
	p, other := picture.New(), picture.New()
	before := told(other)
	for _, call := range calls() {
		call(p)
	}
	if !bytes.Equal(told(other), before) || !bytes.Equal(told(picture.New()), before) {
		t.Error("shared")
	}
}
