package core

import (
	"kotatsu/alu"
	"kotatsu/code"
)

// planAddress plans the cycles that compute the address.
func (c *Core) planAddress() {
	page := cycle{(*Core).readPC, (*Core).nextPage}
	low := cycle{(*Core).readPC, (*Core).nextLow}
	near := cycle{(*Core).readNear, (*Core).nothing}
	switch c.code.Mode {
	case code.Zp:
		c.plan.add(page)
	case code.Zpx, code.Zpy:
		c.plan.add(page, cycle{(*Core).readAt, (*Core).indexPage})
	case code.Abs:
		c.plan.add(low, cycle{(*Core).readPC, (*Core).nextHigh})
	case code.Abx, code.Aby:
		c.plan.add(low, cycle{(*Core).readPC, (*Core).nextIndexed}, near)
	case code.Izx:
		c.plan.add(page, cycle{(*Core).readAt, (*Core).indexPage},
			cycle{(*Core).readAt, (*Core).takeLow}, cycle{(*Core).readAt, (*Core).takeHigh})
	case code.Izy:
		c.plan.add(page, cycle{(*Core).readAt, (*Core).takeLow}, cycle{(*Core).readAt, (*Core).takeIndexed}, near)
	}
}

// index returns the register that the mode adds.
func (c *Core) index() byte {
	switch c.code.Mode {
	case code.Zpy, code.Aby, code.Izy:
		return c.now.U.Y
	}
	return c.now.U.X
}

// nextPage takes an address below 100 from the program.
func (c *Core) nextPage(b byte) {
	c.now.PC++
	c.at = uint16(b)
}

func (c *Core) indexPage(b byte) {
	c.at = uint16(byte(c.at) + c.index())
}

func (c *Core) nextLow(b byte) {
	c.now.PC++
	c.low = b
}

func (c *Core) nextHigh(b byte) {
	c.now.PC++
	c.takeHigh(b)
}

func (c *Core) nextIndexed(b byte) {
	c.now.PC++
	c.takeIndexed(b)
}

// takeLow leaves the address at the upper half, which is on the same page in any case.
func (c *Core) takeLow(b byte) {
	c.low = b
	c.at = within(c.at, c.at+1)
}

func (c *Core) takeHigh(b byte) {
	c.at = c.whole(b)
}

// takeIndexed leaves the cycle at near out, if an operation that does no harm there needs none.
func (c *Core) takeIndexed(b byte) {
	base := c.whole(b)
	c.aim(base, base+uint16(c.index()))
	if alu.Kind(c.code.Op) == alu.Reads && c.near == c.at {
		c.plan.skip(1)
	}
}

// aim sets the address that an addition to base gives, and near.
func (c *Core) aim(base, at uint16) {
	c.at = at
	c.near = within(base, at)
}

// whole returns the address of which low and b are the halves.
func (c *Core) whole(b byte) uint16 {
	return uint16(b)<<8 | uint16(c.low)
}

// within returns the address on a page that has the lower half of another.
func within(page, at uint16) uint16 {
	return page&0xff00 | at&0xff
}
