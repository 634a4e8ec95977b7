package block

import (
	"bytes"
	"math"

	"kotatsu/api"
)

// Side returns the bytes of l, and zeros up to size.
func Side(l []Block, size int) ([]byte, bool) {
	if size > math.MaxInt32 { // beyond what is promised, where making the bytes could panic
		return nil, false
	}
	if !Right(l) || Size(l) > size {
		return nil, false
	}
	p := make([]byte, size)
	at := 0
	for _, b := range l {
		p[at] = b.Kind
		at += 1 + copy(p[at+1:], b.Data)
	}
	return p, true
}

// Parse returns the blocks that p begins with, and how many bytes they take.
func Parse(p []byte) ([]Block, int) {
	var l []Block
	at := 0
	for len(l) < api.MaxBlocks {
		kind, size := next(l)
		end := at + 1 + size
		if end > len(p) || p[at] != kind {
			break
		}
		l = append(l, Block{Kind: kind, Data: bytes.Clone(p[at+1 : end])})
		at = end
	}
	return l, at
}
