// Package matches tells where a pattern matches a text, and what its brackets
// get there.
package matches

import (
	"math/bits"

	"linework/api"
)

const (
	wordBits = 64
	// A text has one place more than it has bytes: its end.
	words = api.MaxSubject/wordBits + 1
)

// places is a set of places in a text, one bit each.
type places [words]uint64

// only is the set of one place.
func only(place int) places {
	var p places
	p[place/wordBits] = 1 << (place % wordBits)
	return p
}

func (p places) has(place int) bool {
	return p[place/wordBits]>>(place%wordBits)&1 == 1
}

// with is the set of the places of both.
func (p places) with(others places) places {
	for i := range p {
		p[i] |= others[i]
	}
	return p
}

// greatest tells the greatest of the places, or false, if there is none.
func (p places) greatest() (int, bool) {
	for i := words - 1; i >= 0; i-- {
		if p[i] != 0 {
			return i*wordBits + bits.Len64(p[i]) - 1, true
		}
	}
	return 0, false
}

// stretches tells of each place of a text where the stretches that begin there
// may end.
type stretches []places

// empties are all stretches of no bytes.
func empties(length int) stretches {
	out := make(stretches, length+1)
	for from := range out {
		out[from] = only(from)
	}
	return out
}

// either are the stretches of both.
func (s stretches) either(others stretches) stretches {
	out := make(stretches, len(s))
	for from := range out {
		out[from] = s[from].with(others[from])
	}
	return out
}

// then are the stretches that begin with one of these and go on with one of the
// rest.
func (s stretches) then(rest stretches) stretches {
	out := make(stretches, len(s))
	for from := range out {
		out[from] = s.onward(from, from, rest)
	}
	return out
}

// onward are the ends of what begins at from with one of these stretches, which
// ends at least or behind it, and goes on with one of the rest.
func (s stretches) onward(from, least int, rest stretches) places {
	var out places
	for middle := least; middle < len(s); middle++ {
		if s[from].has(middle) {
			out = out.with(rest[middle])
		}
	}
	return out
}

// maybe are the empty stretches, and those that begin with one of these that is
// not empty and go on with one of the rest.
func (s stretches) maybe(rest stretches) stretches {
	out := empties(len(s) - 1)
	for from := range out {
		out[from] = out[from].with(s.onward(from, from+1, rest))
	}
	return out
}

// again are all rows of these stretches, none of them empty, of any number.
func (s stretches) again() stretches {
	out := empties(len(s) - 1)
	// From the end on, so that what may come behind a stretch is whole when it
	// is asked for.
	for from := len(s) - 1; from >= 0; from-- {
		out[from] = out[from].with(s.onward(from, from+1, out))
	}
	return out
}
