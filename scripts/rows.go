package scripts

import (
	"bytes"

	"linework/texts"
)

// rows reads what stands behind the `y` of a command.
func (r *reader) rows() (string, string, bool) {
	if !r.Accept('/') {
		return "", "", false
	}
	var first, second []byte
	for !r.Accept('/') {
		b, ok := r.rowByte(first)
		if !ok {
			return "", "", false
		}
		first = append(first, b)
	}
	for range first {
		b, ok := r.rowByte(nil)
		if !ok {
			return "", "", false
		}
		second = append(second, b)
	}
	return string(first), string(second), r.Accept('/')
}

// rowByte reads a byte of a row, which is none of the used ones.
func (r *reader) rowByte(used []byte) (byte, bool) {
	b := r.Peek()
	if b == '\\' {
		return r.escapedRowByte(used)
	}
	if b == texts.End || r.NextIsIn("\n/") || bytes.IndexByte(used, byte(b)) >= 0 {
		return 0, false
	}
	r.At++
	return byte(b), true
}

// escapedRowByte reads a backslash and what stands behind it.
func (r *reader) escapedRowByte(used []byte) (byte, bool) {
	if noEscapeLeft(used) {
		return 0, false
	}
	r.At++
	if !r.NextIsIn(`n\/`) {
		return 0, false
	}
	b := r.Text[r.At]
	if b == 'n' {
		b = '\n'
	}
	if bytes.IndexByte(used, b) >= 0 {
		return 0, false
	}
	r.At++
	return b, true
}

// noEscapeLeft tells whether nothing can stand behind a backslash any more,
// which makes the backslash itself wrong.
func noEscapeLeft(used []byte) bool {
	for _, b := range []byte("\n\\/") {
		if bytes.IndexByte(used, b) < 0 {
			return false
		}
	}
	return true
}
