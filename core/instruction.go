package core

import (
	"kotatsu/alu"
	"kotatsu/code"
)

// planInstruction plans the opcode, which tells the rest.
func (c *Core) planInstruction() {
	c.plan.begin(cycle{(*Core).readPC, (*Core).decode})
}

func (c *Core) decode(b byte) {
	c.now.PC++
	c.code = code.Of(b)
	switch kind := alu.Kind(c.code.Op); {
	case kind == alu.Flows:
		c.planFlow()
	case kind == alu.Branches:
		c.planBranch()
	case c.code.Mode == code.Imp:
		c.plan.add(cycle{(*Core).readPC, (*Core).self})
	case c.code.Mode == code.Imm:
		c.plan.add(cycle{(*Core).readPC, (*Core).readNext})
	default:
		c.planAddress()
		c.planOperand(kind)
	}
}

// planOperand plans what is done at the address.
func (c *Core) planOperand(kind byte) {
	switch kind {
	case alu.Reads:
		c.plan.add(cycle{(*Core).readAt, (*Core).read})
	case alu.Stores:
		c.plan.add(cycle{(*Core).writeStored, (*Core).nothing})
	case alu.Changes:
		c.plan.add(
			cycle{(*Core).readAt, (*Core).keep},
			cycle{(*Core).writeData, (*Core).change},
			cycle{(*Core).writeData, (*Core).nothing},
		)
	}
}

// nothing is what follows from a byte that only happens to be read, or was written.
func (c *Core) nothing(b byte) {}

func (c *Core) self(b byte) {
	c.now.U = c.now.U.Self(c.code.Op)
}

func (c *Core) read(b byte) {
	c.now.U = c.now.U.Read(c.code.Op, b)
}

func (c *Core) readNext(b byte) {
	c.now.PC++
	c.read(b)
}

func (c *Core) keep(b byte) {
	c.data = b
}

func (c *Core) change(b byte) {
	c.now.U, c.data = c.now.U.Change(c.code.Op, c.data)
}
