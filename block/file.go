package block

import "bytes"

// Where the blocks of a disk and of a file hold what they tell.
const (
	signLen   = 14 // in the block of the disk, from 0 on
	atSide    = 20
	atNumber  = 0 // in the block ahead of a file's bytes
	atID      = 1
	atName    = 2
	nameLen   = 8
	atAddress = 10
	atSize    = 12
	atKind    = 14
	maxFile   = 0xffff // the greatest length that two bytes tell
)

// File returns the two blocks of a file, or none if it is too long.
func File(number, id byte, name string, address uint16, kind byte, data []byte) []Block {
	if len(data) > maxFile {
		return nil
	}
	h := make([]byte, sizeHead)
	h[atNumber] = number
	h[atID] = id
	copy(h[atName:atName+nameLen], name)
	putPair(h[atAddress:], address)
	putPair(h[atSize:], uint16(len(data)))
	h[atKind] = kind
	return []Block{
		{Kind: kindHead, Data: h},
		{Kind: kindFile, Data: bytes.Clone(data)},
	}
}

// Disk returns the blocks of a side with those files.
func Disk(sign string, side byte, files ...[]Block) []Block {
	h := make([]byte, sizeDisk)
	copy(h[:signLen], sign)
	h[atSide] = side
	l := []Block{
		{Kind: kindDisk, Data: h},
		{Kind: kindCount, Data: []byte{byte(len(files))}},
	}
	for _, f := range files {
		for _, b := range f {
			l = append(l, Block{Kind: b.Kind, Data: bytes.Clone(b.Data)})
		}
	}
	return l
}

// fileSize returns the length of the file that the block with the bytes h announces.
func fileSize(h []byte) int {
	return int(h[atSize]) | int(h[atSize+1])<<8
}

func putPair(p []byte, n uint16) {
	p[0], p[1] = byte(n), byte(n>>8)
}
