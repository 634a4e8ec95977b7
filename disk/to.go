package disk

import (
	"bytes"

	"kotatsu/api"
	"kotatsu/block"
)

// To returns the set in another form.
func (s Set) To(form byte) (Set, api.Errno) {
	if !s.Right() || !isForm(form) {
		return Set{}, api.ErrArg
	}
	if form == s.Form || form != Quick && s.Form != Quick {
		return s.alike(form), api.OK
	}
	// All sides are read ahead of the first that is written, as a fault in a later side goes before a lack of room in an earlier one.
	lists, e := s.blocks()
	if e != api.OK {
		return Set{}, e
	}
	return written(form, lists)
}

// alike returns the same sides in a form whose sides have the same bytes.
func (s Set) alike(form byte) Set {
	to := Set{Form: form}
	for _, p := range s.Sides {
		to.Sides = append(to.Sides, bytes.Clone(p))
	}
	return to
}

// blocks returns the blocks of each side.
func (s Set) blocks() ([][]block.Block, api.Errno) {
	var lists [][]block.Block
	for _, p := range s.Sides {
		l, e := blocksOf(s.Form, p)
		if e != api.OK {
			return nil, e
		}
		lists = append(lists, l)
	}
	return lists, api.OK
}

func blocksOf(form byte, p []byte) ([]block.Block, api.Errno) {
	if form == Quick {
		return Unwrap(p)
	}
	l, _ := block.Parse(p)
	return l, api.OK
}

// written returns the set of that form whose sides have those blocks.
func written(form byte, lists [][]block.Block) (Set, api.Errno) {
	s := Set{Form: form}
	for _, l := range lists {
		p, ok := sideOf(form, l)
		if !ok {
			return Set{}, api.ErrFull
		}
		s.Sides = append(s.Sides, p)
	}
	return s, api.OK
}

func sideOf(form byte, l []block.Block) ([]byte, bool) {
	if form == Quick {
		return Wrap(l)
	}
	return block.Side(l, api.Side)
}
