// Package host is layer 1: see shared/doc/01-host.md.
package host

import (
	"bytes"
	"maps"
	"slices"

	"kotatsu/api"
)

// Host is files, and what is known of them after a crash.
type Host struct {
	files   map[string]*file // as the running program sees them
	durable map[string]*file // as they are named once a crash keeps no change
	changes []change         // what leads from durable to files
	limit   int
	reads   int
	arm     int // calls until the power is lost; below 0 never
	fault   int // calls until one fails; below 0 never
}

// New makes a host without files.
func New(limit int) *Host {
	return &Host{
		files:   map[string]*file{},
		durable: map[string]*file{},
		limit:   max(limit, 0),
		arm:     -1,
		fault:   -1,
	}
}

// Create makes an empty file.
func (h *Host) Create(name string) api.Errno {
	if e := h.beginChange(); e != api.OK {
		return e
	}
	if !validName(name) {
		return api.ErrArg
	}
	if h.files[name] != nil {
		return api.ErrTwice
	}
	h.record(change{made: &file{}, to: name})
	return api.OK
}

// Append puts all of p behind the file's bytes, or nothing.
func (h *Host) Append(name string, p []byte) api.Errno {
	if e := h.beginChange(); e != api.OK {
		return e
	}
	f := h.files[name]
	if f == nil {
		return api.ErrNone
	}
	if len(p) > h.limit-h.Used() {
		return api.ErrFull
	}
	f.data = append(f.data, p...)
	return api.OK
}

// Read returns the file's contents.
func (h *Host) Read(name string) ([]byte, api.Errno) {
	if e := h.beginLook(); e != api.OK {
		return nil, e
	}
	f := h.files[name]
	if f == nil {
		return nil, api.ErrNone
	}
	h.reads += len(f.data)
	return bytes.Clone(f.data), api.OK
}

// Size returns the file's length.
func (h *Host) Size(name string) (int, api.Errno) {
	if e := h.beginLook(); e != api.OK {
		return 0, e
	}
	f := h.files[name]
	if f == nil {
		return 0, api.ErrNone
	}
	return len(f.data), api.OK
}

// Sync makes the file's contents durable, and all names.
func (h *Host) Sync(name string) api.Errno {
	if e := h.beginChange(); e != api.OK {
		return e
	}
	f := h.files[name]
	if f == nil {
		return api.ErrNone
	}
	f.durable = len(f.data)
	h.settle()
	return api.OK
}

// Rename gives a file another name, and replaces what had it.
func (h *Host) Rename(from, to string) api.Errno {
	if e := h.beginChange(); e != api.OK {
		return e
	}
	if !validName(to) {
		return api.ErrArg
	}
	if h.files[from] == nil {
		return api.ErrNone
	}
	// Recorded, it would be one of the changes that Crash counts: an effect.
	if from != to {
		h.record(change{from: from, to: to})
	}
	return api.OK
}

// Remove deletes a file.
func (h *Host) Remove(name string) api.Errno {
	if e := h.beginChange(); e != api.OK {
		return e
	}
	if h.files[name] == nil {
		return api.ErrNone
	}
	h.record(change{from: name})
	return api.OK
}

// Names returns the names in increasing order.
func (h *Host) Names() []string {
	if h == nil {
		return nil
	}
	return sortedNames(h.files)
}

// Used returns the size of all files together.
func (h *Host) Used() int {
	if h == nil {
		return 0
	}
	n := 0
	for _, f := range h.files {
		n += len(f.data)
	}
	return n
}

// Limit sets how many bytes the files may have from now on.
func (h *Host) Limit(n int) {
	if h != nil {
		h.limit = max(n, 0)
	}
}

// Reads returns how many bytes Read has returned.
func (h *Host) Reads() int {
	if h == nil {
		return 0
	}
	return h.reads
}

// Same reports whether two hosts have the same names and contents.
func Same(a, b *Host) bool {
	if a == nil || b == nil {
		return a == b
	}
	return maps.EqualFunc(a.files, b.files, sameData)
}

func validName(name string) bool {
	return len(name) >= 1 && len(name) <= api.MaxName
}

func sortedNames(files map[string]*file) []string {
	return slices.Sorted(maps.Keys(files))
}
