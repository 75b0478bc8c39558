// Package patterns reads patterns into trees of nodes.
package patterns

// Kind tells what a node matches.
type Kind int

// The kinds of nodes. A byte, a dot, an escape and a set in brackets are all a One.
const (
	Begin  Kind = iota // the empty stretch at the text's beginning
	End                // the empty stretch at the text's end
	One                // one byte that the set holds
	Group              // what its kid matches, remembered under a number
	Repeat             // its kid, from Least to Most times
	Way                // its kids, one behind the other
	Choice             // the first of its kids that does
)

// Endless is the Most of a repetition without an upper bound.
const Endless = -1

// Node is a part of a pattern. A field that its kind does not speak of is zero.
type Node struct {
	Kind        Kind
	Kids        []int // places in Tree.Nodes, in the order of the text
	Set         Set
	Number      int // of a Group: from 1 on, by the order of the brackets
	Least, Most int // of a Repeat
}

// Tree is a pattern that was read. Kids stand ahead of their parent.
type Tree struct {
	Nodes  []Node
	Root   int
	Groups int
}

// Set is a set of bytes, one bit each.
type Set [4]uint64

// Has tells whether the set holds a byte.
func (s Set) Has(b byte) bool { return s[b/64]>>(b%64)&1 == 1 }

// with is the set and all bytes from low to high.
func (s Set) with(low, high byte) Set {
	// An int, because a byte would wrap round behind 255 and never end.
	for b := int(low); b <= int(high); b++ {
		s[b/64] |= 1 << (b % 64)
	}
	return s
}

// others is the set of the bytes that the set does not hold.
func (s Set) others() Set { return Set{^s[0], ^s[1], ^s[2], ^s[3]} }
