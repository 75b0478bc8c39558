package patterns

import (
	"linework/api"
	"linework/texts"
)

const (
	// noStart are the bytes that no part begins with.
	noStart = "\n)*+?{|"
	// noInner are the bytes that no end of a range begins with.
	noInner = "\n]-"
	// escapable are the bytes that stand for themselves behind a backslash.
	escapable = "\\.^$()[]*+?{}|/&-"
	// highestEscaped is the highest byte that an escape can stand for.
	highestEscaped = '}'
)

// reader reads a pattern. Each of its methods that can fail leaves its cursor
// at the first byte that cannot stand there.
type reader struct {
	texts.Cursor
	open   int // brackets open here
	groups int // brackets opened so far
	nodes  []Node
}

// Parse reads a pattern of any length. If it is none, it tells the place of the
// first byte that cannot stand there, or the length.
func Parse(text string) (Tree, int, bool) {
	r := reader{Cursor: texts.Cursor{Text: text}}
	root, ok := r.choice()
	if !ok || r.At < len(text) {
		return Tree{}, r.At, false
	}
	return Tree{Nodes: r.nodes, Root: root, Groups: r.groups}, 0, true
}

// add puts a node into the tree and tells its place.
func (r *reader) add(n Node) int {
	r.nodes = append(r.nodes, n)
	return len(r.nodes) - 1
}

// join makes one node of several; one alone needs no parent.
func (r *reader) join(k Kind, kids []int) int {
	if len(kids) == 1 {
		return kids[0]
	}
	return r.add(Node{Kind: k, Kids: kids})
}

func (r *reader) choice() (int, bool) {
	var kids []int
	for {
		kid, ok := r.way()
		if !ok {
			return 0, false
		}
		kids = append(kids, kid)
		if !r.Accept('|') {
			return r.join(Choice, kids), true
		}
	}
}

func (r *reader) way() (int, bool) {
	var kids []int
	for {
		kid, ok := r.part()
		if !ok {
			return 0, false
		}
		kids = append(kids, kid)
		if !r.startsPart() {
			return r.join(Way, kids), true
		}
	}
}

func (r *reader) startsPart() bool {
	return r.Peek() != texts.End && !r.NextIsIn(noStart)
}

func (r *reader) part() (int, bool) {
	kid, ok := r.one()
	if !ok {
		return 0, false
	}
	switch {
	case r.Accept('*'):
		return r.repeat(kid, 0, Endless), true
	case r.Accept('+'):
		return r.repeat(kid, 1, Endless), true
	case r.Accept('?'):
		return r.repeat(kid, 0, 1), true
	case r.Accept('{'):
		return r.counted(kid)
	}
	return kid, true
}

func (r *reader) repeat(kid, least, most int) int {
	return r.add(Node{Kind: Repeat, Kids: []int{kid}, Least: least, Most: most})
}

// counted reads what stands behind the `{` of a repetition.
func (r *reader) counted(kid int) (int, bool) {
	least, ok := r.digit(0)
	if !ok {
		return 0, false
	}
	most := least
	if r.Accept(',') {
		if most, ok = r.digit(least); !ok {
			return 0, false
		}
	}
	if !r.Accept('}') {
		return 0, false
	}
	return r.repeat(kid, least, most), true
}

// digit reads a digit that is not below least.
func (r *reader) digit(least int) (int, bool) {
	c := r.Peek()
	if c < '0'+least || c > '0'+api.MaxTimes {
		return 0, false
	}
	r.At++
	return c - '0', true
}

func (r *reader) one() (int, bool) {
	if !r.startsPart() {
		return 0, false
	}
	switch c := r.Text[r.At]; c {
	case '^':
		return r.sign(Node{Kind: Begin}), true
	case '$':
		return r.sign(Node{Kind: End}), true
	case '.':
		return r.sign(Node{Kind: One, Set: Set{}.others()}), true
	case '(':
		return r.group()
	case '[':
		return r.set()
	case '\\':
		b, ok := r.escape(0)
		if !ok {
			return 0, false
		}
		return r.add(Node{Kind: One, Set: Set{}.with(b, b)}), true
	default:
		return r.sign(Node{Kind: One, Set: Set{}.with(c, c)}), true
	}
}

// sign steps over the one byte that makes up a node.
func (r *reader) sign(n Node) int {
	r.At++
	return r.add(n)
}

func (r *reader) group() (int, bool) {
	if r.open == api.MaxDepth || r.groups == api.MaxGroups {
		return 0, false
	}
	r.At++
	r.open++
	r.groups++
	// Taken now, because the brackets within count on.
	number := r.groups
	kid, ok := r.choice()
	if !ok || !r.Accept(')') {
		return 0, false
	}
	r.open--
	return r.add(Node{Kind: Group, Kids: []int{kid}, Number: number}), true
}

func (r *reader) set() (int, bool) {
	r.At++
	others := r.Accept('^')
	var set Set
	for {
		low, high, ok := r.between()
		if !ok {
			return 0, false
		}
		set = set.with(low, high)
		if r.Accept(']') {
			break
		}
	}
	if others {
		set = set.others()
	}
	return r.add(Node{Kind: One, Set: set}), true
}

// between reads a range within a set, and tells its ends.
func (r *reader) between() (low, high byte, ok bool) {
	low, ok = r.inner(0)
	if !ok || !r.Accept('-') {
		return low, low, ok
	}
	high, ok = r.inner(low)
	return low, high, ok
}

// inner reads an end of a range, which may not be below least.
func (r *reader) inner(least byte) (byte, bool) {
	if r.Peek() == texts.End || r.NextIsIn(noInner) {
		return 0, false
	}
	c := r.Text[r.At]
	if c == '\\' {
		return r.escape(least)
	}
	if c < least {
		return 0, false
	}
	r.At++
	return c, true
}

// escape reads a backslash and what stands behind it, which may not stand for
// a byte below least. Above the highest escape the backslash itself is wrong
// already, since nothing behind it could mend that.
func (r *reader) escape(least byte) (byte, bool) {
	if least > highestEscaped {
		return 0, false
	}
	r.At++
	if !r.NextIsIn("n" + escapable) {
		return 0, false
	}
	b := r.Text[r.At]
	if b == 'n' {
		b = '\n'
	}
	if b < least {
		return 0, false
	}
	r.At++
	return b, true
}
