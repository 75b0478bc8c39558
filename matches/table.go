package matches

import "linework/patterns"

// Table holds which stretches of a text the nodes of a pattern match.
type Table struct {
	tree patterns.Tree
	text string
	// tails has for each node rows of stretches. The first is what the node
	// itself matches. A way and a repetition have one more for each of their
	// steps: what is still to come behind it. An endless repetition has as its
	// last what may come any number of times.
	tails [][]stretches
}

// Look holds a pattern against a text of at most api.MaxSubject bytes.
func Look(tree patterns.Tree, text string) *Table {
	t := &Table{tree: tree, text: text, tails: make([][]stretches, len(tree.Nodes))}
	for at, node := range tree.Nodes {
		t.tails[at] = t.tailsOf(node)
	}
	return t
}

// whole are the stretches that a node matches.
func (t *Table) whole(at int) stretches { return t.tails[at][0] }

func (t *Table) tailsOf(n patterns.Node) []stretches {
	switch n.Kind {
	case patterns.Begin:
		return t.emptyAt(0)
	case patterns.End:
		return t.emptyAt(len(t.text))
	case patterns.One:
		return t.oneByte(n.Set)
	case patterns.Group:
		return []stretches{t.whole(n.Kids[0])}
	case patterns.Repeat:
		return t.repeated(n)
	case patterns.Way:
		return t.inOrder(n.Kids)
	}
	return t.anyOf(n.Kids)
}

func (t *Table) emptyAt(place int) []stretches {
	out := make(stretches, len(t.text)+1)
	out[place] = only(place)
	return []stretches{out}
}

func (t *Table) oneByte(set patterns.Set) []stretches {
	out := make(stretches, len(t.text)+1)
	for i := range len(t.text) {
		if set.Has(t.text[i]) {
			out[i] = only(i + 1)
		}
	}
	return []stretches{out}
}

func (t *Table) anyOf(kids []int) []stretches {
	out := t.whole(kids[0])
	for _, kid := range kids[1:] {
		out = out.either(t.whole(kid))
	}
	return []stretches{out}
}

func (t *Table) inOrder(kids []int) []stretches {
	tails := make([]stretches, len(kids)+1)
	tails[len(kids)] = empties(len(t.text))
	for i := len(kids) - 1; i >= 0; i-- {
		tails[i] = t.whole(kids[i]).then(tails[i+1])
	}
	return tails
}

func (t *Table) repeated(n patterns.Node) []stretches {
	kid := t.whole(n.Kids[0])
	last := n.Most
	if last == patterns.Endless {
		last = n.Least
	}
	tails := make([]stretches, last+1)
	if n.Most == patterns.Endless {
		tails[last] = kid.again()
	} else {
		tails[last] = empties(len(t.text))
	}
	for i := last - 1; i >= 0; i-- {
		if i < n.Least {
			tails[i] = kid.then(tails[i+1])
		} else {
			tails[i] = kid.maybe(tails[i+1])
		}
	}
	return tails
}
