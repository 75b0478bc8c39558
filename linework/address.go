package linework

import "linework/scripts"

// selects tells whether the address of the command at hand selects, and whether
// that is known yet. What is not known yet leaves its range as it is.
func (e *Editor) selects(c *scripts.Command) (selected, known bool) {
	if c.Second.Sort == scripts.Always {
		return e.meets(&c.First)
	}
	open := e.open[e.at]
	if !open {
		if selected, known = e.meets(&c.First); !selected || !known {
			return false, known
		}
	}
	closes, known := e.closes(&c.Second, open)
	if known {
		e.open[e.at] = !closes
	}
	return known, known
}

// closes tells whether the second half of an address closes a range here. What
// a pattern matches does so only if the range was open already.
func (e *Editor) closes(w *scripts.Where, open bool) (closes, known bool) {
	switch w.Sort {
	case scripts.Line:
		return w.Number <= e.number, true
	case scripts.Matching:
		return open && e.matches(w.Pattern), true
	}
	return e.meets(w)
}

// meets tells whether one half of an address selects, by itself.
func (e *Editor) meets(w *scripts.Where) (selected, known bool) {
	switch w.Sort {
	case scripts.Line:
		return w.Number == e.number, true
	case scripts.Last:
		more, known := e.more()
		return !more, known
	case scripts.Matching:
		return e.matches(w.Pattern), true
	}
	return true, true
}
