package code

import "kotatsu/alu"

// modeSteps holds the cycles of an operation that reads in each mode, if no page is crossed.
var modeSteps = [...]int{
	Imp: 2, Imm: 2, Zp: 3, Zpx: 4, Zpy: 4, Abs: 4, Abx: 4, Aby: 4, Izx: 6, Izy: 5,
}

// Steps returns the cycles that an instruction takes.
func (c Code) Steps(crosses, takes bool) int {
	if _, ok := c.Byte(); !ok {
		return 0
	}
	switch alu.Kind(c.Op) {
	case alu.Flows:
		return c.flowSteps()
	case alu.Branches:
		return branchSteps(crosses, takes)
	}
	return modeSteps[c.Mode] + c.moreSteps(crosses)
}

// flowSteps returns the cycles of the operations that no rule covers; for a processor that halts there are none.
func (c Code) flowSteps() int {
	switch c.Op {
	case alu.Jmp:
		if c.Mode == Ind {
			return 5
		}
		return 3
	case alu.Pha, alu.Php:
		return 3
	case alu.Pla, alu.Plp:
		return 4
	case alu.Jsr, alu.Rts, alu.Rti:
		return 6
	case alu.Brk:
		return 7
	}
	return 0
}

func branchSteps(crosses, takes bool) int {
	switch {
	case takes && crosses:
		return 4
	case takes:
		return 3
	}
	return 2
}

// moreSteps returns the cycles beyond those of the mode.
func (c Code) moreSteps(crosses bool) int {
	switch alu.Kind(c.Op) {
	case alu.Reads:
		if c.mayCross() && crosses {
			return 1
		}
	case alu.Stores:
		if c.mayCross() {
			return 1
		}
	case alu.Changes:
		if c.mayCross() {
			return 3
		}
		if c.Mode != Imp {
			return 2
		}
	}
	return 0
}

// mayCross reports whether an index is added to a whole address, which then may be on another page.
func (c Code) mayCross() bool {
	return c.Mode == Abx || c.Mode == Aby || c.Mode == Izy
}
