package picture_test

import (
	"bytes"
	"math/rand"
	"testing"

	"kotatsu/picture"
)

// spot is a place of the scroll: dots from the left and from the top of a nametable, and which of the four it is.
type spot struct{ column, line, across, down, row int }

func spotOf(n int) spot {
	return spot{n % 32, n / 32 % 32, n / 1024 % 2, n / 2048 % 2, n / 4096 % 8}
}

func (s spot) number() int {
	return s.column + 32*s.line + 1024*s.across + 2048*s.down + 4096*s.row
}

// dot is what sprites show at a dot of a line.
type dot struct {
	colour       int
	first, under bool
}

// model is the document's picture unit in plain numbers: a sprite line is painted when it is selected.
type model struct {
	memory        [0x4000]int
	sprites       [256]int
	upright       bool
	v, t          spot
	x             int
	second        bool
	control, mask int
	bus, buffer   int
	at            int
	flags         int
	now, picture  int // the dot within the picture, and which picture
	frames        int
	line          [256]dot
	screen        [240 * 256]byte
}

// cell returns where the byte of an address is: the second nametable behind the first.
func (m *model) cell(a int) int {
	a = place(a, m.upright)
	if a >= 0x2800 && a < 0x2c00 {
		a -= 0x400
	}
	return a
}

func (m *model) peek(a int) int {
	return m.memory[m.cell(a)]
}

func (m *model) poke(a, b int) {
	if a%0x4000 >= 0x3f00 {
		b %= 64
	}
	m.memory[m.cell(a)] = b
}

func (m *model) step() {
	n := m.v.number() + 1
	if m.control/4%2 == 1 {
		n += 31
	}
	m.v = spotOf(n % 0x8000)
}

func (m *model) put(reg, b int) {
	m.bus = b
	switch reg % 8 {
	case 0:
		m.control = b
		m.t.across, m.t.down = b%2, b/2%2
	case 1:
		m.mask = b
	case 3:
		m.at = b
	case 4:
		m.sprites[m.at] = b
		m.at = (m.at + 1) % 256
	case 5:
		if m.second {
			m.t.line, m.t.row = b/8, b%8
		} else {
			m.t.column, m.x = b/8, b%8
		}
		m.second = !m.second
	case 6:
		if m.second {
			m.t = spotOf(m.t.number()/256*256 + b)
			m.v = m.t
		} else {
			m.t = spotOf(m.t.number()%256 + b%64*256)
		}
		m.second = !m.second
	case 7:
		m.poke(m.v.number(), b)
		m.step()
	}
}

func (m *model) get(reg int) int {
	switch reg % 8 {
	case 2:
		m.bus = m.flags + m.bus%32
		m.flags %= 0x80
		m.second = false
	case 4:
		m.bus = m.sprites[m.at]
		if m.at%4 == 2 {
			m.bus = m.bus/32*32 + m.bus%4
		}
	case 7:
		a := m.v.number() % 0x4000
		under := m.peek(a)
		if a >= 0x3f00 {
			m.bus = under + m.bus/64*64
			under = m.peek(a - 0x1000)
		} else {
			m.bus = m.buffer
		}
		m.buffer = under
		m.step()
	}
	return m.bus
}

func (m *model) shown() bool {
	return m.mask/8%4 != 0
}

func (m *model) flag(bit int, on bool) {
	if m.flags/bit%2 == 1 {
		m.flags -= bit
	}
	if on {
		m.flags += bit
	}
}

// number returns the number of a dot, counted from the left, of a pattern's row.
func (m *model) number(at, x int) int {
	n := 1 << (7 - x)
	return m.peek(at)/n%2 + m.peek(at+8)/n%2*2
}

// tile returns the number of a tile's dot, and its color.
func (m *model) tile(x int) (int, int) {
	if m.mask/8%2 == 0 || x < 8 && m.mask/2%2 == 0 {
		return 0, 0
	}
	left := (m.v.across*256 + m.v.column*8 + x%8 + m.x) % 512
	name := 0x2000 + m.v.down*0x800 + left/256*0x400
	column, line := left%256/8, m.v.line
	n := m.number(m.peek(name+line*32+column)*16+m.v.row+m.control/16%2*0x1000, left%8)
	corner := column/2%2 + line/2%2*2
	of := m.peek(name+0x3c0+line/4*8+column/4) >> (2 * corner) % 4
	return n, of*4 + n
}

func (m *model) pixel(x int) {
	number, colour := m.tile(x)
	if number == 0 {
		colour = 0
	}
	s := m.line[x]
	if m.mask/16%2 == 0 || x < 8 && m.mask/4%2 == 0 {
		s = dot{}
	}
	if s.first && number != 0 && x < 255 {
		m.flag(0x40, true)
	}
	if s.colour != 0 && (number == 0 || !s.under) {
		colour = s.colour
	}
	b := m.peek(0x3f00 + colour)
	if m.mask%2 == 1 {
		b = b / 16 * 16
	}
	m.screen[m.now/341*256+x] = byte(b)
}

// paint puts a sprite's row in the line, below those that are there.
func (m *model) paint(i, row, height int) {
	tile, attributes, left := m.sprites[4*i+1], m.sprites[4*i+2], m.sprites[4*i+3]
	if attributes/128 == 1 {
		row = height - 1 - row
	}
	at := tile*16 + m.control/8%2*0x1000
	if height == 16 {
		at = tile/2*32 + tile%2*0x1000 + row/8*8
	}
	for x := range 8 {
		n := m.number(at+row, x)
		to := left + x
		if attributes/64%2 == 1 {
			to = left + 7 - x
		}
		if n != 0 && to < 256 && m.line[to].colour == 0 {
			m.line[to] = dot{0x10 + attributes%4*4 + n, i == 0, attributes/32%2 == 1}
		}
	}
}

func (m *model) choose() {
	m.line = [256]dot{}
	if m.now/341 >= 240 || !m.shown() {
		return
	}
	height := 8 + m.control/32%2*8
	n := 0
	for i := range 64 {
		row := m.now/341 - m.sprites[4*i]
		if row < 0 || row >= height {
			continue
		}
		n++
		if n <= 8 {
			m.paint(i, row, height)
		}
	}
	if n > 8 {
		m.flag(0x20, true)
	}
}

func (m *model) down() {
	m.v.row++
	m.v.line += m.v.row / 8
	m.v.row %= 8
	if m.v.row == 0 && m.v.line == 30 {
		m.v.line, m.v.down = 0, 1-m.v.down
	}
	m.v.line %= 32
}

func (m *model) move(line, at int) {
	switch {
	case !m.shown() || line >= 240 && line < 261 || at == 0:
	case at < 256 && at%8 == 0:
		m.v.across = (m.v.across + (m.v.column+1)/32) % 2
		m.v.column = (m.v.column + 1) % 32
	case at == 256:
		m.down()
	case at == 257:
		m.v.column, m.v.across = m.t.column, m.t.across
	case at >= 280 && at <= 304 && line == 261:
		m.v.line, m.v.row, m.v.down = m.t.line, m.t.row, m.t.down
	}
}

func (m *model) clock() {
	line, at := m.now/341, m.now%341
	if m.now == 241*341+1 {
		m.flag(0x80, true)
		m.frames++
	}
	if m.now == 261*341+1 {
		m.flags = 0
	}
	if line < 240 && at >= 1 && at <= 256 {
		m.pixel(at - 1)
	}
	m.move(line, at)
	if at == 257 {
		m.choose()
	}
	m.now++
	if m.now == 262*341 || m.now == 262*341-1 && m.picture%2 == 1 && m.shown() {
		m.now = 0
		m.picture++
	}
}

// pair is a picture unit and its model, which get the same calls.
type pair struct {
	p *picture.Picture
	m *model
	r *rand.Rand
}

func (c *pair) put(reg, b int) {
	c.p.Put(byte(reg), byte(b))
	c.m.put(reg, b)
}

func (c *pair) poke(a, b int) {
	c.p.Poke(uint16(a), byte(b))
	c.m.poke(a, b)
}

// byte returns a random one, often with few bits or with all.
func (c *pair) byte() int {
	switch c.r.Intn(6) {
	case 0:
		return 1 << c.r.Intn(8)
	case 1:
		return c.r.Intn(2) * 255
	}
	return c.r.Intn(256)
}

// begin makes a scene: some patterns are sparse, and the sprites are near each other.
func (c *pair) begin() {
	for a := range 0x4000 {
		c.poke(a, c.byte())
	}
	for range 20 {
		from, n := c.r.Intn(0x2000), c.r.Intn(400)
		for a := from; a < from+n && a < 0x2000; a++ {
			c.poke(a, c.r.Intn(2)*c.byte()&c.byte())
		}
	}
	heap := c.r.Intn(200)
	for i := range 256 {
		b := c.byte()
		if i%4 == 0 && c.r.Intn(3) > 0 {
			b = (heap + c.r.Intn(60)) % 256
		}
		c.put(4, b)
	}
	c.put(0, c.byte())
	c.put(1, 0x1e)
}

func (c *pair) shows() int {
	switch c.r.Intn(8) {
	case 0:
		return c.byte()
	case 1, 2:
		return 8 * c.r.Intn(4)
	}
	return 0x18 + c.r.Intn(8)
}

// count returns how many Clocks come next.
func (c *pair) count() int {
	switch c.r.Intn(40) {
	case 0:
		return c.r.Intn(90000)
	case 1, 2, 3:
		line, at := c.p.Dot()
		return max(0, c.r.Intn(262)*341+c.r.Intn(3)+256-line*341-at)
	case 4, 5, 6, 7, 8, 9:
		return c.r.Intn(3000)
	}
	return c.r.Intn(30)
}

// change makes one random call that changes something.
func (c *pair) change() {
	switch c.r.Intn(12) {
	case 0, 1:
		c.put(1, c.shows())
	case 2, 3, 4:
		c.put(c.r.Intn(256), c.byte())
	case 5:
		c.poke(c.r.Intn(0x10000), c.byte())
	case 6:
		on := c.r.Intn(2) == 0
		c.p.Upright(on)
		c.m.upright = on
	case 7:
		c.p = c.p.Copy()
	case 8:
		c.put(5, c.byte())
		c.put(5, c.byte())
	case 9:
		c.put(3, c.r.Intn(64)*4)
		for range 4 {
			c.put(4, c.byte())
		}
	}
}

// check holds all that both tell against each other.
func (c *pair) check(t *testing.T) {
	t.Helper()
	p, m := c.p, c.m
	line, at := p.Dot()
	if line*341+at != m.now || p.Frame() != m.frames || p.NMI() != (m.flags >= 0x80 && m.control >= 0x80) {
		t.Fatal(line, at, m.now, p.Frame(), m.frames, p.NMI())
	}
	reg := c.r.Intn(256)
	if got, want := int(p.Get(byte(reg))), m.get(reg); got != want {
		t.Fatalf("%02x at %d %d: %02x, want %02x", reg, line, at, got, want)
	}
	a := c.r.Intn(0x10000)
	if got, want := int(p.Peek(uint16(a))), m.peek(a); got != want {
		t.Fatalf("%04x: %02x, want %02x", a, got, want)
	}
}

func (c *pair) compareScreens(t *testing.T) {
	t.Helper()
	screen := c.p.Screen()
	if bytes.Equal(screen, c.m.screen[:]) {
		return
	}
	for i := range screen {
		if screen[i] != c.m.screen[i] {
			t.Fatalf("%d %d: %02x, want %02x", i/256, i%256, screen[i], c.m.screen[i])
		}
	}
	t.Fatal(len(screen))
}

// TestP15_4Lives: random lives of several pictures, with writes and reads at all dots, against the model.
func TestP15_4Lives(t *testing.T) {
	r := rand.New(rand.NewSource(15))
	for range 30 {
		c := &pair{picture.New(), &model{}, r}
		c.begin()
		for i := range 600 {
			n := c.count()
			for range n {
				c.p.Clock()
				c.m.clock()
			}
			c.check(t)
			c.change()
			if i%20 == 0 || n > 10000 {
				c.compareScreens(t)
			}
		}
	}
}

// TestP15_5Scenes: whole pictures of random scenes, with the flags behind every dot, against the model.
func TestP15_5Scenes(t *testing.T) {
	r := rand.New(rand.NewSource(5))
	for range 12 {
		c := &pair{picture.New(), &model{}, r}
		c.begin()
		c.put(0, r.Intn(64)*4)
		for range 2 {
			c.put(1, 0x18+r.Intn(8))
			c.put(5, c.byte())
			c.put(5, c.byte())
			for range 262 * 341 {
				line, at := c.p.Dot()
				c.p.Clock()
				c.m.clock()
				if c.m.flags&0x60 != 0x60 && at%16 < 3 && flags(c.p) != byte(c.m.flags) {
					t.Fatalf("%d %d: %02x, want %02x", line, at, flags(c.p), c.m.flags)
				}
			}
			c.compareScreens(t)
		}
	}
}

// TestP15_4Lines: calls between the dots of single lines, with the whole row behind each.
func TestP15_4Lines(t *testing.T) {
	r := rand.New(rand.NewSource(6))
	for range 6 {
		c := &pair{picture.New(), &model{}, r}
		c.begin()
		for c.m.frames < 2 {
			for range 341 {
				c.p.Clock()
				c.m.clock()
				if r.Intn(40) == 0 {
					c.change()
				}
			}
			y := max(0, min(239, c.m.now/341-r.Intn(2)))
			if got, want := c.p.Row(y), c.m.screen[y*256:y*256+256]; !bytes.Equal(got, want) {
				t.Fatalf("%d:\n%x\n%x", y, got, want)
			}
			c.check(t)
		}
	}
}
