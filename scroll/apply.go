package scroll

import (
	"bytes"

	"kotatsu/api"
)

// Apply returns the sides as they are after the writes.
func Apply(sides [][]byte, l []Write) ([][]byte, bool) {
	for _, w := range l {
		if !w.Right() || !w.fits(sides) {
			return nil, false
		}
	}
	out := make([][]byte, len(sides))
	for i, s := range sides {
		out[i] = bytes.Clone(s)
	}
	for _, w := range l {
		copy(out[w.Side][w.At:], w.Data)
	}
	return out, true
}

func (w Write) fits(sides [][]byte) bool {
	return int(w.Side) < len(sides) && w.end() <= uint64(len(sides[w.Side]))
}

// Merge returns the writes with those joined that continue each other.
func Merge(l []Write) []Write {
	var out []Write
	for _, w := range l {
		if n := len(out); n > 0 && out[n-1].joins(w) {
			out[n-1].Data = append(out[n-1].Data, w.Data...)
		} else {
			out = append(out, w.copied())
		}
	}
	return out
}

// joins reports whether next continues w, and both are short enough for one record.
func (w Write) joins(next Write) bool {
	return w.Side == next.Side && w.end() == uint64(next.At) && len(w.Data)+len(next.Data) <= api.MaxRecord
}
