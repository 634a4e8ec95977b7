package drive

// Motor turns the motor on or off.
func (d *Drive) Motor(on bool) {
	if d == nil || d.motor == on {
		return
	}
	d.motor = on
	// Wherever the head stopped, it starts from the beginning when the motor is on again.
	d.goBack()
}

// goBack lets the head begin to return to the start.
func (d *Drive) goBack() {
	d.left = Wait + Byte
	d.next = 0
}

// goes reports whether the head moves at all.
func (d *Drive) goes() bool {
	return d.motor && d.Has()
}

// Ready reports whether the head is over the side.
func (d *Drive) Ready() bool {
	return d != nil && d.goes() && d.left <= Byte
}

// At returns the offset of the byte that passes next.
func (d *Drive) At() int {
	if !d.Ready() {
		return 0
	}
	return d.next
}

// Clock executes one cycle, and reports whether a byte passed in it.
func (d *Drive) Clock() bool {
	if d == nil {
		return false
	}
	d.passed = passing{}
	d.written = writing{}
	if !d.goes() {
		return false
	}
	d.left--
	if d.left > 0 {
		return false
	}
	d.pass()
	return true
}

// pass lets one byte pass, and puts the head in front of the next.
func (d *Drive) pass() {
	d.passed = passing{ok: true, at: d.next}
	d.left = Byte
	d.next++
	if d.next == len(d.side) {
		d.goBack()
	}
}

// Get returns the byte that passed in the last Clock.
func (d *Drive) Get() byte {
	if d == nil || !d.passed.ok {
		return 0
	}
	return d.side[d.passed.at]
}

// Lay overwrites the byte that passed in the last Clock.
func (d *Drive) Lay(b byte) bool {
	if d == nil || !d.passed.ok || d.protected {
		return false
	}
	d.side[d.passed.at] = b
	d.written = writing{ok: true, at: d.passed.at, b: b}
	return true
}

// Last returns the offset and the byte last written since the last Clock.
func (d *Drive) Last() (int, byte, bool) {
	if d == nil {
		return 0, 0, false
	}
	return d.written.at, d.written.b, d.written.ok
}
