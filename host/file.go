package host

import (
	"bytes"
	"maps"
)

// file is one file's bytes, under whatever name it has.
type file struct {
	data    []byte
	durable int // how many of the first bytes survive every crash
}

func (f *file) copy() *file {
	return &file{data: bytes.Clone(f.data), durable: f.durable}
}

// remains returns the file that a crash leaves: the durable bytes and at most tail others.
func (f *file) remains(tail int) *file {
	n := f.durable + min(max(tail, 0), len(f.data)-f.durable)
	return &file{data: bytes.Clone(f.data[:n]), durable: n}
}

func sameData(a, b *file) bool {
	return bytes.Equal(a.data, b.data)
}

// change is one name operation: a file leaves the name from, or is made, and comes to the name to, or is gone.
// No valid name is empty, so the empty one stands for none.
type change struct {
	from, to string
	made     *file
}

func (c change) apply(files map[string]*file) {
	f := c.made
	if c.from != "" {
		f = files[c.from]
		delete(files, c.from)
	}
	if c.to != "" {
		files[c.to] = f
	}
}

func (h *Host) record(c change) {
	c.apply(h.files)
	h.changes = append(h.changes, c)
}

// settle makes all changes so far durable.
func (h *Host) settle() {
	for _, c := range h.changes {
		c.apply(h.durable)
	}
	h.changes = nil
}

// replay returns the files after the changes; the map that is given stays as it is.
func replay(files map[string]*file, changes []change) map[string]*file {
	after := maps.Clone(files)
	for _, c := range changes {
		c.apply(after)
	}
	return after
}
