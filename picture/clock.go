package picture

import "kotatsu/api"

// Lines besides those of the picture.
const (
	blankLine = 241 // in which the vertical blank begins
	lastLine  = 261 // in which it ends
)

// Dots of a line.
const (
	flagDot   = 1
	firstDot  = 1 // of a line's pixels
	lastPixel = firstDot + api.Wide - 1
	returnDot = lastPixel + 1
	lastRight = 248
	firstTop  = 280
	lastTop   = 304
	lastDot   = 340
)

// Clock processes a dot.
func (p *Picture) Clock() {
	if p == nil {
		return
	}
	if p.dot == flagDot {
		p.changeFlags()
	}
	if p.line < api.High && p.dot >= firstDot && p.dot <= lastPixel {
		p.draw(p.dot - firstDot)
	}
	if p.renders() && (p.line < api.High || p.line == lastLine) {
		p.moveScroll()
	}
	if p.dot == returnDot {
		p.selectSprites()
	}
	p.nextDot()
}

func (p *Picture) changeFlags() {
	switch p.line {
	case blankLine:
		p.blank = true
		p.frames++
	case lastLine:
		p.blank, p.hit, p.overflow = false, false, false
	}
}

func (p *Picture) moveScroll() {
	switch {
	case p.dot == lastPixel:
		p.scroll = p.scroll.Down()
	case p.dot == returnDot:
		p.scroll = p.scroll.Line()
	case p.dot > 0 && p.dot <= lastRight && p.dot%stripDots == 0:
		p.scroll = p.scroll.Right()
	case p.line == lastLine && p.dot >= firstTop && p.dot <= lastTop:
		p.scroll = p.scroll.Top()
	}
}

func (p *Picture) nextDot() {
	if p.dot < p.lastOfLine() {
		p.dot++
		return
	}
	p.dot = 0
	p.line++
	if p.line > lastLine {
		p.line = 0
	}
}

// lastOfLine returns the last dot of the line: every second picture is a dot shorter, if it is rendered.
func (p *Picture) lastOfLine() int {
	// In the last line, the picture itself is among those completed.
	if p.line == lastLine && p.frames%2 == 0 && p.renders() {
		return lastDot - 1
	}
	return lastDot
}
