// Package linework: an editor of streams of lines: see DOC.md.
package linework

import (
	"linework/api"
	"linework/matches"
	"linework/patterns"
	"linework/scripts"
)

// Pattern tells whether a text is a pattern, and if not, where (P3).
func Pattern(pattern string) (api.Errno, int) {
	if len(pattern) > api.MaxPattern {
		return api.ErrLong, 0
	}
	if _, at, ok := patterns.Parse(pattern); !ok {
		return api.ErrPattern, at
	}
	return api.OK, 0
}

// Match tells where a pattern matches a text first, and its groups (P4, P5).
func Match(pattern, text string) ([]api.Span, api.Errno) {
	if len(pattern) > api.MaxPattern || len(text) > api.MaxSubject {
		return nil, api.ErrLong
	}
	tree, _, ok := patterns.Parse(pattern)
	if !ok {
		return nil, api.ErrPattern
	}
	return matches.Look(tree, text).First(0), api.OK
}

// Check tells whether a text is a script, and if not, where (P6).
func Check(script string) (api.Errno, int) {
	_, errno, at := scripts.Read(script)
	return errno, at
}

// Open begins to edit a stream (P7).
func Open(script string, l api.Limits) (*Editor, api.Errno) {
	commands, errno, _ := scripts.Read(script)
	if errno != api.OK {
		return nil, errno
	}
	if !allowed(l) {
		return nil, api.ErrLimits
	}
	return newEditor(commands, l), api.OK
}

// Feed gives a piece of the stream (P8).
func (e *Editor) Feed(piece string) {
	// Byte by byte, so that it cannot matter how the stream is cut.
	for i := 0; i < len(piece) && e.takes(); i++ {
		e.add(piece[i])
		e.work()
	}
}

// End says that the stream is at its end (P8).
func (e *Editor) End() {
	if e.takes() {
		e.ended = true
		e.work()
	}
}

// Take takes at most n bytes of what was made (P8).
func (e *Editor) Take(n int) string { return e.take(n) }

// Ready tells how many bytes can be taken (P8).
func (e *Editor) Ready() int { return e.ready() }

// State tells how it stands (P8).
func (e *Editor) State() int { return e.state }
