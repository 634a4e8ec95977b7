package disk

import (
	"bytes"

	"kotatsu/api"
	"kotatsu/block"
	"kotatsu/seal"
)

const sumSize = 2 // bytes of the sum behind a block

// Wrap returns the side of the form Quick with those blocks.
func Wrap(l []block.Block) ([]byte, bool) {
	if !block.Right(l) || block.Size(l)+sumSize*len(l) > api.Quick {
		return nil, false
	}
	p := make([]byte, api.Quick)
	at := 0
	for _, b := range l {
		p[at] = b.Kind
		end := at + 1 + copy(p[at+1:], b.Data)
		sum := seal.Short(p[at:end])
		p[end], p[end+1] = byte(sum), byte(sum>>8)
		at = end + sumSize
	}
	return p, true
}

// Unwrap returns the blocks that a side of the form Quick begins with.
func Unwrap(p []byte) ([]block.Block, api.Errno) {
	var l []block.Block
	for len(p) > 0 {
		kind, size := block.Want(l)
		if kind == 0 || p[0] != kind { // a full list wants no kind, not even 0
			break
		}
		end := 1 + size
		if end+sumSize > len(p) {
			return nil, api.ErrForm
		}
		if seal.Short(p[:end]) != pair(p[end:]) {
			return nil, api.ErrSum
		}
		l = append(l, block.Block{Kind: kind, Data: bytes.Clone(p[1:end])})
		p = p[end+sumSize:]
	}
	return l, api.OK
}

func pair(p []byte) uint16 {
	return uint16(p[0]) | uint16(p[1])<<8
}
