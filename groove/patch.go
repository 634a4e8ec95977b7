package groove

import (
	"bytes"
	"slices"

	"kotatsu/api"
	"kotatsu/scroll"
)

// Patch returns p with data stored at an offset.
func Patch(p []byte, at int, data []byte) ([]byte, bool) {
	if at < 0 || at > len(p)-len(data) { // not at+len(data), which may wrap round
		return nil, false
	}
	q := bytes.Clone(p)
	copy(q[at:], data)
	return q, true
}

// Diff returns the writes that turn a into b, of those bytes alone that differ.
func Diff(a, b []byte) []scroll.Write {
	if len(a) != len(b) {
		return nil
	}
	var l []scroll.Write
	for at := 0; at < len(b); at++ {
		if n := differing(a[at:], b[at:]); n > 0 {
			l = append(l, pieces(at, b[at:at+n])...)
			at += n // to the byte that ended the run, which is equal
		}
	}
	return l
}

// differing returns how many bytes at the beginning of a and b differ.
func differing(a, b []byte) int {
	n := 0
	for n < len(b) && a[n] != b[n] {
		n++
	}
	return n
}

// pieces returns the writes that store a run.
func pieces(at int, run []byte) []scroll.Write {
	var l []scroll.Write
	for data := range slices.Chunk(run, api.MaxRecord) {
		l = append(l, scroll.Write{At: uint32(at), Data: bytes.Clone(data)})
		at += len(data)
	}
	return l
}
