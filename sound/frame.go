package sound

// Where in a frame the tones do something. Only the last place is another in the second mode.
const (
	firstQuarter  = 7457
	secondQuarter = 14913
	thirdQuarter  = 22371
	lastOfFirst   = 29829
	lastOfSecond  = 37281
)

// Bits of what is written to the frame counter.
const (
	secondMode = 0x80
	inhibits   = 0x40
)

// frame is the frame counter.
type frame struct {
	count     int
	second    bool // the mode
	inhibited bool
	requests  bool
}

func (f *frame) put(b byte) {
	f.count = 0
	f.second = b&secondMode != 0
	f.inhibited = b&inhibits != 0
	if f.inhibited {
		f.requests = false
	}
}

func (f *frame) last() int {
	if f.second {
		return lastOfSecond
	}
	return lastOfFirst
}

// clock counts a cycle, and returns what the tones do in it.
func (f *frame) clock() (quarter, half bool) {
	f.count++
	last := f.last()
	switch f.count {
	case firstQuarter, thirdQuarter:
		return true, false
	case secondQuarter:
		return true, true
	case last:
		if !f.second && !f.inhibited {
			f.requests = true
		}
		return true, true
	case last + 1:
		f.count = 0
	}
	return false, false
}
