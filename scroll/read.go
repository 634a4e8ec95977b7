package scroll

import (
	"kotatsu/api"
	"kotatsu/seal"
)

// reader collects groups; begun has no writes while no group is begun.
type reader struct {
	groups []Group
	begun  Group
}

// Read returns the complete groups of p, and where the last of them ends.
func Read(p []byte) ([]Group, int, api.Errno) {
	var r reader
	end := 0
	for at := 0; at < len(p); {
		c, n, e := seal.Next(p[at:])
		if e == api.ErrForm {
			break // what a crash cut off is no fault
		}
		if e != api.OK {
			return nil, 0, e
		}
		at += n
		done, ok := r.take(c)
		if !ok {
			return nil, 0, api.ErrForm
		}
		if done {
			end = at
		}
	}
	return r.groups, end, api.OK
}

// take reports whether c completed a group, and whether it is a record or a mark at all.
func (r *reader) take(c []byte) (done, ok bool) {
	switch {
	case len(c) > recordHead && c[0] == recordKind:
		return false, r.record(c)
	case len(c) == markSize && c[0] == markKind:
		return r.mark(c), true
	}
	return false, false
}

// record keeps a piece of c, which is Next's result and nobody else's.
func (r *reader) record(c []byte) bool {
	w := Write{Side: c[9], At: numberAt(c, 10), Data: c[recordHead:]}
	if !w.Right() {
		return false
	}
	group, index := numberAt(c, 1), numberAt(c, 5)
	if group != r.begun.Number || index != r.next() {
		r.begun = Group{Number: group}
	}
	// After an index out of order nothing is begun, so that only 0 is taken.
	if index == r.next() {
		r.begun.Writes = append(r.begun.Writes, w)
	}
	return true
}

func (r *reader) mark(c []byte) bool {
	g := r.begun
	n := r.next()
	r.begun = Group{}
	if n == 0 || numberAt(c, 1) != g.Number || numberAt(c, 5) != n {
		return false
	}
	r.groups = append(r.groups, g)
	return true
}

// next is the index with which a record continues the group.
func (r *reader) next() uint32 {
	return uint32(len(r.begun.Writes))
}
