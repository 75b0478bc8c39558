package linework_test

import (
	"math/rand"
	"strings"
	"testing"

	"linework/api"
)

// The document's grammar, word by word: each function gives all spots at which
// the thing that it is named for can end. It is slow, and knows no places.

type spot struct{ at, groups int }

type spots map[spot]bool

type grammar string

func (g grammar) is(at int, set string) bool {
	return at < len(g) && strings.IndexByte(set, g[at]) >= 0
}

func (g grammar) pattern(from spot, depth int) spots {
	out := g.way(from, depth)
	return g.more(out, func(s spot) spots {
		if g.is(s.at, "|") {
			return g.way(spot{s.at + 1, s.groups}, depth)
		}
		return nil
	})
}

func (g grammar) way(from spot, depth int) spots {
	out := g.part(from, depth)
	return g.more(out, func(s spot) spots { return g.part(s, depth) })
}

// more adds to the spots all that are reached from them by further steps.
func (g grammar) more(out spots, step func(spot) spots) spots {
	work := []spot{}
	for s := range out {
		work = append(work, s)
	}
	for len(work) > 0 {
		s := work[0]
		work = work[1:]
		for n := range step(s) {
			if !out[n] {
				out[n] = true
				work = append(work, n)
			}
		}
	}
	return out
}

func (g grammar) part(from spot, depth int) spots {
	out := spots{}
	for s := range g.one(from, depth) {
		out[s] = true
		at := s.at
		if g.is(at, "*+?") {
			out[spot{at + 1, s.groups}] = true
		}
		if g.is(at, "{") && g.is(at+1, "0123456789") {
			if g.is(at+2, "}") {
				out[spot{at + 3, s.groups}] = true
			}
			if g.is(at+2, ",") && g.is(at+3, "0123456789") && g[at+1] <= g[at+3] && g.is(at+4, "}") {
				out[spot{at + 5, s.groups}] = true
			}
		}
	}
	return out
}

const escapedBytes = "n\\.^$()[]*+?{}|/&-"

func (g grammar) one(from spot, depth int) spots {
	out := spots{}
	at := from.at
	if at >= len(g) {
		return out
	}
	if !g.is(at, "\n\\()[*+?{|") { // the dot, the ends and the bytes that are their own
		out[spot{at + 1, from.groups}] = true
	}
	if g.is(at, "\\") && g.is(at+1, escapedBytes) {
		out[spot{at + 2, from.groups}] = true
	}
	if g.is(at, "(") && depth < 5 && from.groups < 9 {
		for s := range g.pattern(spot{at + 1, from.groups + 1}, depth+1) {
			if g.is(s.at, ")") {
				out[spot{s.at + 1, s.groups}] = true
			}
		}
	}
	if g.is(at, "[") {
		at++
		if g.is(at, "^") {
			at++
		}
		for s := range g.more(g.span(at), func(s spot) spots { return g.span(s.at) }) {
			if g.is(s.at, "]") {
				out[spot{s.at + 1, from.groups}] = true
			}
		}
	}
	return out
}

func (g grammar) span(at int) spots {
	out := spots{}
	if low, n := g.inner(at); n > at {
		out[spot{n, 0}] = true
		if g.is(n, "-") {
			if high, m := g.inner(n + 1); m > n+1 && low <= high {
				out[spot{m, 0}] = true
			}
		}
	}
	return out
}

// inner gives the byte, and the place behind it, or the place itself if there is none.
func (g grammar) inner(at int) (byte, int) {
	switch {
	case at >= len(g) || g.is(at, "\n]-"):
		return 0, at
	case g[at] != '\\':
		return g[at], at + 1
	case !g.is(at+1, escapedBytes):
		return 0, at
	case g[at+1] == 'n':
		return '\n', at + 2
	}
	return g[at+1], at + 2
}

func isPattern(s string) bool {
	for end := range grammar(s).pattern(spot{}, 0) {
		if end.at == len(s) {
			return true
		}
	}
	return false
}

// begins tells whether a pattern begins with s: one of these tails and enough
// closing brackets make a pattern of whatever can become one.
func begins(s string) bool {
	for _, tail := range []string{"", "a", "]", "n", "}", "9}", "a]", "n]", "}]", "\xff]"} {
		for n := range min(strings.Count(s, "("), 5) + 1 {
			if isPattern(s + tail + strings.Repeat(")", n)) {
				return true
			}
		}
	}
	return false
}

// checkPlace asks for s, which is a byte longer than something that begins a
// pattern, and tells whether s begins one too.
func checkPlace(t *testing.T, s string) bool {
	t.Helper()
	if !begins(s) {
		wantPlace(t, s, len(s)-1)
		return false
	}
	if isPattern(s) {
		wantPattern(t, s)
	} else {
		wantPlace(t, s, len(s))
	}
	return true
}

const symbols = "a(|)[]^-\\n*{,}01~\n"

func TestPlaceOfAllShortTexts(t *testing.T) {
	work := []string{""}
	for len(work) > 0 {
		s := work[0]
		work = work[1:]
		for i := range symbols {
			if next := s + symbols[i:i+1]; checkPlace(t, next) && len(next) < 4 {
				work = append(work, next)
			}
		}
	}
}

func TestPlaceOfLongTexts(t *testing.T) {
	chance := rand.New(rand.NewSource(1))
	// Brackets and sets come often enough to meet their bounds.
	for _, from := range []string{symbols + "aaaa", symbols + "((((()))))aaaaaaaaaa", symbols + "[[[]]]---\\\\\\+?.$&/\x00\xff\xff~}bcdz"} {
		for range 25 {
			s := ""
			for tries := 0; tries < 120 && len(s) < api.MaxPattern; tries++ {
				i := chance.Intn(len(from))
				if next := s + from[i:i+1]; checkPlace(t, next) {
					s = next
				}
			}
		}
	}
}
