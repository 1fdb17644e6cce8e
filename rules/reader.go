package rules

// reader goes through a text from left to right; at is the place of the first byte that is not taken yet.
// Each method takes what it can, and where it answers false, at is the place of the byte that cannot stand there.
type reader struct {
	text string
	at   int
	many int // the place of the first thing above its bound, or none
}

const none = -1

// peek answers 0 at the end. 0 stands nowhere in a sheet, so an early end is refused
// as a wrong byte is, and its place is the text's length.
func (r *reader) peek() byte {
	if r.at < 0 || r.at >= len(r.text) {
		return 0
	}
	return r.text[r.at]
}

func (r *reader) ended() bool {
	return r.at >= len(r.text)
}

// noteMany keeps the first place alone, which is the leftmost, as the text is read in order.
func (r *reader) noteMany() {
	if r.many == none {
		r.many = r.at
	}
}

func (r *reader) take(wanted byte) bool {
	_, ok := r.takeBetween(wanted, wanted)
	return ok
}

func (r *reader) takeBetween(low, high byte) (byte, bool) {
	if r.ended() {
		return 0, false
	}
	next := r.peek()
	if next < low || next > high {
		return 0, false
	}
	r.at++
	return next, true
}

func (r *reader) letter() (byte, bool) {
	return r.takeBetween('a', 'z')
}

func (r *reader) variable() (byte, bool) {
	return r.takeBetween('X', 'Z')
}

func (r *reader) property() (byte, bool) {
	found, ok := r.takeBetween('A', 'F')
	if ok {
		return found, true
	}
	return r.variable()
}

func (r *reader) digit() (int, bool) {
	found, ok := r.takeBetween('0', '9')
	if !ok {
		return 0, false
	}
	return int(found - '0'), true
}
