package loopy

// Right goes to the next column, behind the last one to the nametable beside.
func (s Scroll) Right() Scroll {
	s = s.inside()
	if s.V&column == column {
		s.V = s.V&^column ^ across
	} else {
		s.V++
	}
	return s
}

// Down goes to the next row, behind the last line shown to the nametable below.
func (s Scroll) Down() Scroll {
	s = s.inside()
	if s.V&row != row {
		s.V += oneRow
		return s
	}
	s.V &^= row
	switch s.V & line {
	case lastShown:
		s.V = s.V&^line ^ down
	case lastLine:
		// The lines beyond those shown can be written, and lead to no other nametable.
		s.V &^= line
	default:
		s.V += oneLine
	}
	return s
}

// Line goes back to the left, where T begins.
func (s Scroll) Line() Scroll {
	s = s.inside()
	s.V = with(s.V, column|across, s.T)
	return s
}

// Top goes back to the top, where T begins.
func (s Scroll) Top() Scroll {
	s = s.inside()
	s.V = with(s.V, line|row|down, s.T)
	return s
}
