package core

import "kotatsu/alu"

// stack is where the stack's page begins.
const stack = 0x100

// top is where a halted processor reads.
const top = 0xffff

func (c *Core) readPC() Access {
	return Access{At: c.now.PC}
}

func (c *Core) readStack() Access {
	return Access{At: c.stackAt()}
}

func (c *Core) readAt() Access {
	return Access{At: c.at}
}

func (c *Core) readNear() Access {
	return Access{At: c.near}
}

func (c *Core) readTop() Access {
	return Access{At: top}
}

func (c *Core) writeStored() Access {
	return Access{At: c.at, Put: true, B: c.now.U.Store(c.code.Op)}
}

func (c *Core) writeData() Access {
	return Access{At: c.at, Put: true, B: c.data}
}

func (c *Core) pushA() Access {
	return c.push(c.now.U.A)
}

func (c *Core) pushFlags() Access {
	return c.push(c.now.U.P)
}

// pushBreak pushes the flags as a program does it, by which they differ from those of an interrupt.
func (c *Core) pushBreak() Access {
	return c.push(c.now.U.P | alu.Break)
}

func (c *Core) pushHigh() Access {
	return c.push(byte(c.now.PC >> 8))
}

func (c *Core) pushLow() Access {
	return c.push(byte(c.now.PC))
}

func (c *Core) push(b byte) Access {
	return Access{At: c.stackAt(), Put: true, B: b}
}

func (c *Core) stackAt() uint16 {
	return stack + uint16(c.now.U.S)
}
