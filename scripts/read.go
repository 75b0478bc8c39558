package scripts

import (
	"strings"

	"linework/api"
	"linework/patterns"
	"linework/texts"
)

const (
	blank = " "
	// between are the bytes that may stand between commands.
	between = " ;\n"
	digits  = "0123456789"
	// mostDigits is how many a number has at most.
	mostDigits = 4
	// starts are the bytes that an address begins with.
	starts = digits + "$/"
	// none is the place of what was not found.
	none = -1
)

// reader reads a script. Each of its methods that can fail leaves its cursor
// at the first byte that cannot stand there.
type reader struct {
	texts.Cursor
	open     int // blocks open here
	commands []Command
	labels   []label
	long     int // where the first pattern that is too long begins
}

// Read reads a script. If it is none, it tells the error and its place. The
// commands of a block stand behind it in the row; labels have none of their own.
func Read(text string) ([]Command, api.Errno, int) {
	if len(text) > api.MaxScript {
		return nil, api.ErrLong, 0
	}
	r := reader{Cursor: texts.Cursor{Text: text}, long: none}
	if !r.row() {
		return nil, api.ErrScript, r.At
	}
	if r.long != none {
		return nil, api.ErrPattern, r.long
	}
	if at, ok := r.join(); !ok {
		return nil, api.ErrLabel, at
	}
	return r.commands, api.OK, 0
}

// row reads commands up to the script's end, or that of the block.
func (r *reader) row() bool {
	for {
		r.Skip(between)
		if r.Peek() == texts.End || r.closes() {
			return true
		}
		if !r.command() || !r.parted() {
			return false
		}
	}
}

// closes tells whether a `}` comes next that closes a block.
func (r *reader) closes() bool { return r.open > 0 && r.Peek() == '}' }

// parted reads blanks, and tells whether what comes then may stand behind a command.
func (r *reader) parted() bool {
	r.Skip(blank)
	return r.Peek() == texts.End || r.NextIsIn(";\n") || r.closes()
}

func (r *reader) command() bool {
	from := r.At
	c, ok := r.address()
	if !ok {
		return false
	}
	if r.Accept('!') {
		c.Not = true
		r.Skip(blank)
	}
	if r.Peek() == ':' {
		return r.At == from && r.mark()
	}
	return r.what(c)
}

// address reads an address, if there is one, and begins a command with it.
func (r *reader) address() (c Command, ok bool) {
	if !r.NextIsIn(starts) {
		return c, true
	}
	if c.First, ok = r.where(); !ok {
		return c, false
	}
	if r.Accept(',') {
		if c.Second, ok = r.where(); !ok {
			return c, false
		}
	}
	r.Skip(blank)
	return c, true
}

func (r *reader) where() (Where, bool) {
	switch {
	case r.Accept('$'):
		return Where{Sort: Last}, true
	case r.Accept('/'):
		tree, ok := r.pattern()
		return Where{Sort: Matching, Pattern: tree}, ok
	}
	n, ok := r.number()
	return Where{Sort: Line, Number: n}, ok
}

// number reads a number that is not 0. A nought is wrong already where no
// digit can come behind it that would make more than 0 of the number.
func (r *reader) number() (int, bool) {
	n := 0
	for left := mostDigits; left > 0 && r.NextIsIn(digits); left-- {
		n = 10*n + r.Peek() - '0'
		if left == 1 && n == 0 {
			return 0, false
		}
		r.At++
	}
	return n, n > 0
}

// pattern reads a pattern and the `/` behind it.
func (r *reader) pattern() (patterns.Tree, bool) {
	from := r.At
	text := upToSlash(r.Text[from:])
	tree, at, ok := patterns.Parse(text)
	if !ok {
		r.At += at
		return tree, false
	}
	if len(text) > api.MaxPattern && r.long == none {
		r.long = from
	}
	r.At += len(text)
	return tree, r.Accept('/')
}

// upToSlash is the text ahead of the first `/` that has no backslash of its own.
func upToSlash(text string) string {
	for at := 0; at < len(text); at++ {
		switch text[at] {
		case '/':
			return text[:at]
		case '\\':
			at++
		}
	}
	return text
}

// what reads a command behind its address.
func (r *reader) what(c Command) bool {
	if !r.NextIsIn(letters) {
		return false
	}
	c.Kind = Kind(strings.IndexByte(letters, r.Text[r.At]))
	if c.Kind == Block {
		return r.block(c)
	}
	r.At++
	ok := true
	switch c.Kind {
	case After, Before, Instead:
		c.Text, ok = r.line()
	case Branch, Test:
		r.label(true)
	case Substitute:
		c.Put, ok = r.put()
	case Transliterate:
		c.From, c.To, ok = r.rows()
	}
	r.commands = append(r.commands, c)
	return ok
}

// block reads a block, whose commands come behind its own.
func (r *reader) block(c Command) bool {
	if r.open == api.MaxDepth {
		return false
	}
	r.At++
	r.open++
	at := len(r.commands)
	r.commands = append(r.commands, c)
	if !r.row() || !r.Accept('}') {
		return false
	}
	r.open--
	r.commands[at].Goal = len(r.commands)
	return true
}

// line reads a blank and the text up to the end of the line.
func (r *reader) line() (string, bool) {
	if !r.Accept(' ') {
		return "", false
	}
	text, _, _ := strings.Cut(r.Text[r.At:], "\n")
	r.At += len(text)
	// A copy, so that the commands do not keep what was handed in.
	return strings.Clone(text), true
}
