package shelf

import (
	"kotatsu/api"
	"kotatsu/host"
	"kotatsu/scroll"
)

// Open recovers the sides that a host has.
func Open(h *host.Host, top int) (*Shelf, api.Errno) {
	if h == nil {
		return nil, api.ErrNone
	}
	s := &Shelf{host: h, top: top}
	whole, e := s.load()
	if e == api.OK && !whole {
		// Records put behind a frame that was cut off could not be read.
		e = s.renew()
	}
	if e != api.OK {
		return nil, e
	}
	s.sides = cloned(s.safe)
	return s, api.OK
}

// load takes the sides from the base and its log, and reports whether the log can be continued.
func (s *Shelf) load() (bool, api.Errno) {
	p, e := s.host.Read(baseName)
	if e != api.OK {
		return false, e
	}
	gen, sides, e := parseBase(p)
	if e != api.OK {
		return false, e
	}
	log, e := s.host.Read(LogName(gen))
	missing := e == api.ErrNone
	if e != api.OK && !missing {
		return false, e
	}
	groups, end, e := scroll.Read(log)
	if e != api.OK {
		return false, e
	}
	safe, ok := scroll.Apply(sides, writesOf(groups))
	if !ok {
		return false, api.ErrForm
	}
	s.gen, s.log, s.safe = gen, len(log), safe
	return !missing && end == len(log), api.OK
}

// writesOf joins the groups, as Apply copies all sides each time.
func writesOf(groups []scroll.Group) []scroll.Write {
	var l []scroll.Write
	for _, g := range groups {
		l = append(l, g.Writes...)
	}
	return l
}
