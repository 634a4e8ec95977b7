package core

// cycle is a bus access, and what follows from the byte that was read.
type cycle struct {
	wants func(*Core) Access
	does  func(*Core, byte)
}

// longest is the cycles of the longest instruction.
const longest = 8

// plan is the cycles of an instruction or sequence, as far as they are known yet; an array, so that a copy of the core has its own.
type plan struct {
	cycles [longest]cycle
	known  int
	done   int
}

func (p *plan) begin(l ...cycle) {
	p.known, p.done = 0, 0
	p.add(l...)
}

func (p *plan) add(l ...cycle) {
	p.known += copy(p.cycles[p.known:], l)
}

func (p *plan) next() cycle {
	return p.cycles[p.done]
}

// skip leaves cycles out, or behind.
func (p *plan) skip(n int) {
	p.done += n
}

// again lets the cycle that is being executed come once more.
func (p *plan) again() {
	p.done--
}

func (p *plan) fresh() bool {
	return p.done == 0
}

func (p *plan) over() bool {
	return p.done == p.known
}
