package core

import "kotatsu/alu"

// Where the addresses are stored at which a sequence lets the program go on.
const (
	nmiVector   = 0xfffa
	resetVector = 0xfffc
	irqVector   = 0xfffe
)

// planInterrupt plans the sequence of an NMI or an IRQ.
func (c *Core) planInterrupt(vector uint16) {
	idle := cycle{(*Core).readPC, (*Core).nothing}
	c.plan.begin(idle, idle)
	c.planPushPC()
	c.plan.add(cycle{(*Core).pushFlags, (*Core).stackDown})
	c.planVector(vector)
}

// planReset plans a sequence that only goes through the motions of pushing.
func (c *Core) planReset() {
	idle := cycle{(*Core).readPC, (*Core).nothing}
	down := cycle{(*Core).readStack, (*Core).stackDown}
	c.plan.begin(idle, idle, down, down, down)
	c.planVector(resetVector)
}

func (c *Core) planVector(vector uint16) {
	c.at = vector
	c.plan.add(cycle{(*Core).readAt, (*Core).takeLow}, cycle{(*Core).readAt, (*Core).enter})
}

// enter goes on where the vector says, with IRQs masked.
func (c *Core) enter(b byte) {
	c.jump(b)
	c.now.U = c.now.U.Flag(alu.Mask, true)
}
