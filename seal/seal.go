// Package seal is layer 2: see shared/doc/02-seal.md.
package seal

import (
	"bytes"

	"kotatsu/api"
)

const (
	longPoly  = 0xedb88320
	shortPoly = 0x8408
	head      = 8       // bytes of a frame ahead of its contents
	most      = 1 << 24 // bytes of contents that Next accepts
)

// Long is the CRC-32 of p.
func Long(p []byte) uint32 {
	return ^rollLong(^uint32(0), p)
}

func rollLong(sum uint32, p []byte) uint32 {
	for _, b := range p {
		sum ^= uint32(b)
		for range 8 {
			sum = sum>>1 ^ longPoly&-(sum&1) // a mask, as a branch on random bits is slow
		}
	}
	return sum
}

// Short is the disk's CRC-16 of p.
func Short(p []byte) uint16 {
	sum := uint16(0x8000)
	for _, b := range p {
		sum = Step(sum, b)
	}
	return Step(Step(sum, 0), 0)
}

// Step takes one byte into the register of Short.
func Step(sum uint16, b byte) uint16 {
	for range 8 {
		out := sum & 1
		sum = sum>>1 | uint16(b&1)<<15
		sum ^= shortPoly & -out
		b >>= 1
	}
	return sum
}

// Frame returns p behind its length and sum.
func Frame(p []byte) []byte {
	size := little(uint32(len(p)))
	sum := little(sealOf(size[:], p))
	f := make([]byte, 0, head+len(p))
	f = append(f, size[:]...)
	f = append(f, sum[:]...)
	return append(f, p...)
}

// Next returns the contents of the frame that p begins with, and the frame's length.
func Next(p []byte) ([]byte, int, api.Errno) {
	if len(p) == 0 {
		return nil, 0, api.ErrNone
	}
	if len(p) < head {
		return nil, 0, api.ErrForm
	}
	size := number(p[:4])
	if size > most || int(size) > len(p)-head {
		return nil, 0, api.ErrForm
	}
	end := head + int(size)
	if sealOf(p[:4], p[head:end]) != number(p[4:head]) {
		return nil, 0, api.ErrSum
	}
	return bytes.Clone(p[head:end]), end, api.OK
}

// sealOf is Long of size and p together, without joining them.
func sealOf(size, p []byte) uint32 {
	return ^rollLong(rollLong(^uint32(0), size), p)
}

func little(n uint32) [4]byte {
	return [4]byte{byte(n), byte(n >> 8), byte(n >> 16), byte(n >> 24)}
}

func number(p []byte) uint32 {
	return uint32(p[0]) | uint32(p[1])<<8 | uint32(p[2])<<16 | uint32(p[3])<<24
}
