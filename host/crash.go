package host

import (
	"maps"

	"kotatsu/api"
)

// Arm loses the power after n more calls that change something.
func (h *Host) Arm(n int) {
	if h != nil {
		h.arm = n
	}
}

// Fault lets one call fail after n more calls.
func (h *Host) Fault(n int) {
	if h != nil {
		h.fault = n
	}
}

// Crash returns the host as it may be found after a crash.
func (h *Host) Crash(keep int, tails []int) *Host {
	if h == nil {
		return nil
	}
	keep = min(max(keep, 0), len(h.changes))
	found := replay(h.durable, h.changes[:keep])
	left := New(h.limit)
	for i, name := range sortedNames(found) {
		left.files[name] = found[name].remains(tailOf(tails, i))
	}
	left.durable = maps.Clone(left.files)
	return left
}

func tailOf(tails []int, i int) int {
	if len(tails) == 0 {
		return 0
	}
	return tails[i%len(tails)]
}

// Copy returns an independent copy, with all that Crash, Arm and Fault go by.
func (h *Host) Copy() *Host {
	if h == nil {
		return nil
	}
	twin := &Host{durable: map[string]*file{}, limit: h.limit, reads: h.reads, arm: h.arm, fault: h.fault}
	for name, f := range h.durable {
		twin.durable[name] = f.copy()
	}
	for _, c := range h.changes {
		if c.made != nil {
			c.made = c.made.copy()
		}
		twin.changes = append(twin.changes, c)
	}
	// Replayed and not copied, a file stays one file under its durable and its present name.
	twin.files = replay(twin.durable, twin.changes)
	return twin
}

// beginLook counts a call of Read or Size.
func (h *Host) beginLook() api.Errno {
	if h == nil {
		return api.ErrNone
	}
	if h.faulty() {
		return api.ErrIO
	}
	return api.OK
}

// beginChange counts a call that the loss of power stops.
func (h *Host) beginChange() api.Errno {
	if h == nil {
		return api.ErrNone
	}
	off, faulty := h.off(), h.faulty() // both count, whichever is told
	if off {
		return api.ErrOff
	}
	if faulty {
		return api.ErrIO
	}
	return api.OK
}

func (h *Host) off() bool {
	if h.arm > 0 {
		h.arm--
		return false
	}
	return h.arm == 0
}

func (h *Host) faulty() bool {
	if h.fault < 0 {
		return false
	}
	h.fault--
	return h.fault < 0
}
