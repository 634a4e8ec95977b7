package core

import (
	"kotatsu/alu"
	"kotatsu/code"
)

// planFlow plans the operations that have cycles of their own.
func (c *Core) planFlow() {
	switch c.code.Op {
	case alu.Jmp:
		c.planJump()
	case alu.Jsr:
		c.plan.add(cycle{(*Core).readPC, (*Core).nextLow}, cycle{(*Core).readStack, (*Core).nothing})
		c.planPushPC()
		c.plan.add(cycle{(*Core).readPC, (*Core).jump})
	case alu.Brk:
		c.plan.add(cycle{(*Core).readPC, (*Core).skipNext})
		c.planPushPC()
		c.plan.add(cycle{(*Core).pushBreak, (*Core).stackDown})
		c.planVector(irqVector)
	case alu.Jam:
		c.jammed = true
		c.plan.add(cycle{(*Core).readTop, (*Core).halt})
	default:
		c.plan.add(cycle{(*Core).readPC, (*Core).nothing})
		c.planStack()
	}
}

func (c *Core) planJump() {
	low := cycle{(*Core).readPC, (*Core).nextLow}
	if c.code.Mode == code.Abs {
		c.plan.add(low, cycle{(*Core).readPC, (*Core).jump})
		return
	}
	c.plan.add(low, cycle{(*Core).readPC, (*Core).nextHigh},
		cycle{(*Core).readAt, (*Core).takeLow}, cycle{(*Core).readAt, (*Core).jump})
}

// planStack plans what an operation without an operand pushes or pulls.
func (c *Core) planStack() {
	up := cycle{(*Core).readStack, (*Core).stackUp}
	low := cycle{(*Core).readStack, (*Core).pullLow}
	jump := cycle{(*Core).readStack, (*Core).jump}
	switch c.code.Op {
	case alu.Pha:
		c.plan.add(cycle{(*Core).pushA, (*Core).stackDown})
	case alu.Php:
		c.plan.add(cycle{(*Core).pushBreak, (*Core).stackDown})
	case alu.Pla:
		c.plan.add(up, cycle{(*Core).readStack, (*Core).takeA})
	case alu.Plp:
		c.plan.add(up, cycle{(*Core).readStack, (*Core).takeFlags})
	case alu.Rti:
		c.plan.add(up, cycle{(*Core).readStack, (*Core).pullFlags}, low, jump)
	case alu.Rts:
		c.plan.add(up, low, jump, cycle{(*Core).readPC, (*Core).skipNext})
	}
}

func (c *Core) planPushPC() {
	c.plan.add(cycle{(*Core).pushHigh, (*Core).stackDown}, cycle{(*Core).pushLow, (*Core).stackDown})
}

// skipNext drops a byte of the program.
func (c *Core) skipNext(b byte) {
	c.now.PC++
}

func (c *Core) jump(b byte) {
	c.now.PC = c.whole(b)
}

func (c *Core) halt(b byte) {
	c.plan.again()
}

func (c *Core) stackUp(b byte) {
	c.now.U.S++
}

func (c *Core) stackDown(b byte) {
	c.now.U.S--
}

func (c *Core) pullLow(b byte) {
	c.low = b
	c.stackUp(b)
}

func (c *Core) pullFlags(b byte) {
	c.takeFlags(b)
	c.stackUp(b)
}

func (c *Core) takeFlags(b byte) {
	c.now.U.P = flags(b)
}

func (c *Core) takeA(b byte) {
	c.now.U = c.now.U.Read(alu.Lda, b)
}

// planBranch plans a branch that is taken to another page; others leave cycles out.
func (c *Core) planBranch() {
	c.plan.add(
		cycle{(*Core).readPC, (*Core).branch},
		cycle{(*Core).readPC, (*Core).arrive},
		cycle{(*Core).readNear, (*Core).nothing},
	)
}

func (c *Core) branch(b byte) {
	c.now.PC++
	if !c.now.U.Takes(c.code.Op) {
		c.plan.skip(2)
		return
	}
	c.aim(c.now.PC, c.now.PC+uint16(int8(b)))
}

func (c *Core) arrive(b byte) {
	c.now.PC = c.at
	if c.near == c.at {
		c.plan.skip(1)
	}
}
