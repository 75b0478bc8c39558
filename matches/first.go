package matches

import (
	"linework/api"
	"linework/patterns"
)

// First tells the match that begins first at a place or behind it, of several
// such the longest, and behind it what each bracket gets; nil, if there is none.
func (t *Table) First(place int) []api.Span {
	whole := t.whole(t.tree.Root)
	for from := place; from < len(whole); from++ {
		if to, ok := whole[from].greatest(); ok {
			return t.spans(api.Span{From: from, To: to})
		}
	}
	return nil
}

// spans are the match and, behind it, what each bracket gets of it.
func (t *Table) spans(match api.Span) []api.Span {
	out := make([]api.Span, 1+t.tree.Groups)
	out[0] = match
	for i := range t.tree.Groups {
		out[1+i] = api.Span{From: -1, To: -1}
	}
	t.give(t.tree.Root, match, out)
	return out
}

// give hands a stretch that a node matches to it, and so to the brackets within.
func (t *Table) give(at int, stretch api.Span, out []api.Span) {
	n := t.tree.Nodes[at]
	switch n.Kind {
	case patterns.Group:
		out[n.Number] = stretch
		t.give(n.Kids[0], stretch, out)
	case patterns.Repeat:
		t.giveRepeat(at, stretch, out)
	case patterns.Way:
		t.giveWay(at, stretch, out)
	case patterns.Choice:
		t.giveChoice(n.Kids, stretch, out)
	}
}

// giveChoice hands the stretch to the first of the kids that matches it.
func (t *Table) giveChoice(kids []int, stretch api.Span, out []api.Span) {
	for _, kid := range kids {
		if t.whole(kid)[stretch.From].has(stretch.To) {
			t.give(kid, stretch, out)
			return
		}
	}
}

func (t *Table) giveWay(at int, left api.Span, out []api.Span) {
	for i, kid := range t.tree.Nodes[at].Kids {
		left.From = t.giveStep(kid, left, t.tails[at][i+1], out)
	}
}

func (t *Table) giveRepeat(at int, left api.Span, out []api.Span) {
	n, tails := t.tree.Nodes[at], t.tails[at]
	times := 0
	for ; left.From < left.To; times++ {
		// What may come any number of times is still to come behind itself.
		rest := tails[min(times+1, len(tails)-1)]
		left.From = t.giveStep(n.Kids[0], left, rest, out)
	}
	// Once is enough for all times that are left: on the same empty stretch
	// each would come to the same, and nested ones would come to very many.
	if times < n.Least {
		t.give(n.Kids[0], left, out)
	}
}

// giveStep hands a kid the longest beginning of what is left that it matches
// while the rest matches what is behind that, and tells where it ends.
func (t *Table) giveStep(kid int, left api.Span, rest stretches, out []api.Span) int {
	ends := t.whole(kid)[left.From]
	to := left.To
	for to > left.From && !(ends.has(to) && rest[to].has(left.To)) {
		to--
	}
	t.give(kid, api.Span{From: left.From, To: to}, out)
	return to
}
