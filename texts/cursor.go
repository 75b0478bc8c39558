// Package texts goes through texts byte by byte.
package texts

import "strings"

// End is what Peek tells behind the last byte.
const End = -1

// Cursor goes through a text once, from left to right. What reads with it asks
// all that forbids a byte before it steps over it, so that a cursor that was
// left behind stands at the first byte that cannot stand there.
type Cursor struct {
	Text string
	At   int
}

// Peek is the byte that comes next, or End.
func (c *Cursor) Peek() int {
	if c.At == len(c.Text) {
		return End
	}
	return int(c.Text[c.At])
}

// Accept steps over a byte, if it comes next.
func (c *Cursor) Accept(b byte) bool {
	if c.Peek() != int(b) {
		return false
	}
	c.At++
	return true
}

// NextIsIn tells whether one of these bytes comes next.
func (c *Cursor) NextIsIn(these string) bool {
	return c.At < len(c.Text) && strings.IndexByte(these, c.Text[c.At]) >= 0
}

// Skip steps over all of these bytes that come next.
func (c *Cursor) Skip(these string) {
	for c.NextIsIn(these) {
		c.At++
	}
}
