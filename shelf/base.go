package shelf

import (
	"strconv"

	"kotatsu/api"
	"kotatsu/seal"
)

const (
	baseName  = "base"
	tmpName   = "tmp"
	logPrefix = "log."
)

// Base is the contents of the file base.
func Base(gen uint32, sides [][]byte) []byte {
	p := appendNumber(nil, gen)
	p = append(p, byte(len(sides)))
	for _, s := range sides {
		p = appendNumber(p, uint32(len(s)))
		p = append(p, s...)
	}
	return seal.Frame(p)
}

// LogName is the name of a generation's log.
func LogName(gen uint32) string {
	return logPrefix + strconv.FormatUint(uint64(gen), 10)
}

// parseBase is the inverse of Base.
func parseBase(p []byte) (uint32, [][]byte, api.Errno) {
	c, n, e := seal.Next(p)
	if e == api.ErrNone {
		e = api.ErrForm // the file is there, so nothing in it is a wrong form
	}
	if e != api.OK {
		return 0, nil, e
	}
	if n != len(p) || len(c) < 5 {
		return 0, nil, api.ErrForm
	}
	sides, ok := parseSides(c[5:], int(c[4]))
	if !ok {
		return 0, nil, api.ErrForm
	}
	return numberOf(c), sides, api.OK
}

// parseSides returns pieces of p; it fails unless p is exactly n sides that a shelf may have.
func parseSides(p []byte, n int) ([][]byte, bool) {
	var sides [][]byte
	for range n {
		if len(p) < 4 {
			return nil, false
		}
		size := uint64(numberOf(p))
		p = p[4:]
		if size > uint64(len(p)) {
			return nil, false
		}
		sides = append(sides, p[:size])
		p = p[size:]
	}
	return sides, len(p) == 0 && validSides(sides)
}

func validSides(sides [][]byte) bool {
	for _, s := range sides {
		if len(s) > api.Quick {
			return false
		}
	}
	return len(sides) >= 1 && len(sides) <= api.MaxSides
}

func appendNumber(p []byte, n uint32) []byte {
	return append(p, byte(n), byte(n>>8), byte(n>>16), byte(n>>24))
}

func numberOf(p []byte) uint32 {
	p = p[:4]
	return uint32(p[0]) | uint32(p[1])<<8 | uint32(p[2])<<16 | uint32(p[3])<<24
}
