package linework

// reader reads the lines of the input. Each line is read as soon as it is
// wanted and at hand, and bytes come one by one: so no more than the next line
// has to be kept.
type reader struct {
	longest int    // bytes that a line may have
	next    []byte // what was fed of the next line
	whole   bool   // its newline was fed, too
	ended   bool   // no more is fed
	number  int    // of the line read last
}

// add takes the next byte of the input.
func (r *reader) add(b byte) {
	if b == '\n' {
		r.whole = true
		return
	}
	r.next = append(r.next, b)
}

// more tells whether there is a next line, and whether that is known yet.
func (r *reader) more() (more, known bool) {
	more = r.whole || len(r.next) > 0
	return more, more || r.ended
}

// atHand tells whether enough is known to read the next line, or to tell that
// there is none, or that it is too long.
func (r *reader) atHand() bool { return r.whole || r.ended || r.tooLong() }

func (r *reader) tooLong() bool { return len(r.next) > r.longest }

// read hands out the next line.
func (r *reader) read() string {
	line := string(r.next)
	r.next, r.whole = r.next[:0], false
	r.number++
	return line
}
