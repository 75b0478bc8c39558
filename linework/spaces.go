package linework

import (
	"strings"

	"linework/matches"
	"linework/patterns"
)

// space is a text of bounded length. What a space cannot hold leaves it as it is.
type space struct {
	text string
	most int // bytes that it may have
}

// become puts a text in the place of what is there.
func (s *space) become(text string) bool {
	if len(text) > s.most {
		return false
	}
	s.text = text
	return true
}

// grow puts a newline and a text behind what is there.
func (s *space) grow(text string) bool { return s.become(s.text + "\n" + text) }

// patternSpace is the space that is edited.
type patternSpace struct{ space }

// holdSpace is the space beside it.
type holdSpace struct{ space }

// matches tells whether a pattern matches anywhere in the space.
func (p *patternSpace) matches(tree patterns.Tree) bool {
	return matches.Look(tree, p.text).First(0) != nil
}

// firstLine is all up to the first newline, or all.
func (p *patternSpace) firstLine() string {
	line, _, _ := strings.Cut(p.text, "\n")
	return line
}

// dropLine takes away all up to the first newline, with it, if there is one.
func (p *patternSpace) dropLine() bool {
	_, rest, ok := strings.Cut(p.text, "\n")
	if ok {
		p.text = rest
	}
	return ok
}

// transliterate makes of each byte of one row that of the other at the same place.
func (p *patternSpace) transliterate(from, to string) {
	out := []byte(p.text)
	for i, b := range out {
		if at := strings.IndexByte(from, b); at >= 0 {
			out[i] = to[at]
		}
	}
	p.text = string(out)
}

// exchange lets the hold space and another change places.
func (h *holdSpace) exchange(other *patternSpace) {
	h.text, other.text = other.text, h.text
}
