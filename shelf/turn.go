package shelf

import (
	"errors"
	"slices"
	"strconv"
	"strings"

	"kotatsu/api"
	"kotatsu/host"
)

// call is one call of the host, with its arguments.
type call func() api.Errno

func on(method func(string) api.Errno, name string) call {
	return func() api.Errno { return method(name) }
}

func with[T string | []byte](method func(string, T) api.Errno, name string, x T) call {
	return func() api.Errno { return method(name, x) }
}

// hostError is the host's error as Go knows errors.
type hostError api.Errno

func (e hostError) Error() string {
	return "host error " + strconv.Itoa(int(e))
}

// stopped wraps the error that ended a row of calls.
type stopped struct {
	after int // calls that went well
	cause error
}

func (s stopped) Error() string {
	return "stopped after " + strconv.Itoa(s.after) + " calls: " + s.cause.Error()
}

func (s stopped) Unwrap() error {
	return s.cause
}

// inOrder makes the calls up to the first that fails.
func inOrder(calls ...call) error {
	for i, c := range calls {
		if e := c(); e != api.OK {
			return stopped{after: i, cause: hostError(e)}
		}
	}
	return nil
}

// errnoOf returns the host's error within err.
func errnoOf(err error) api.Errno {
	var e hostError
	if errors.As(err, &e) {
		return api.Errno(e)
	}
	return api.OK
}

// turn begins the generation gen with the durable sides.
// Until the Rename the old base and its log are untouched; from then on the new log is the one that counts,
// even if the Sync fails: a Sync of the new log makes the Rename durable too.
func (s *Shelf) turn(gen uint32) error {
	h, log := s.host, LogName(gen)
	calls := append(removals(h, tmpName, log),
		on(h.Create, tmpName),
		with(h.Append, tmpName, Base(gen, s.safe)),
		on(h.Sync, tmpName),
		on(h.Create, log),
		on(h.Sync, log),
		with(h.Rename, tmpName, baseName),
	)
	if err := inOrder(calls...); err != nil {
		return err
	}
	s.gen, s.log, s.attempts = gen, 0, 0
	return inOrder(on(h.Sync, baseName))
}

// removals are the calls that remove those of the names that exist.
func removals(h *host.Host, names ...string) []call {
	var calls []call
	there := h.Names()
	for _, name := range names {
		if slices.Contains(there, name) {
			calls = append(calls, on(h.Remove, name))
		}
	}
	return calls
}

// renew makes a turn to the next generation, and then drops the logs that nothing needs any more.
func (s *Shelf) renew() api.Errno {
	if e := errnoOf(s.turn(s.gen + 1)); e != api.OK {
		return e
	}
	own := LogName(s.gen)
	for _, name := range s.host.Names() {
		if strings.HasPrefix(name, logPrefix) && name != own {
			s.host.Remove(name) // what stays is not read, so its error is no matter
		}
	}
	return api.OK
}
