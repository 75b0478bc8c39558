package linework_test

import (
	"math/rand"
	"regexp"
	"strconv"
	"strings"
	"testing"

	"linework/api"
	"linework/linework"
)

// A pattern made here, not read from a text; what it matches, and how, is
// written below as the document's words say it, stretch by stretch.
type made struct {
	sign        string // of a byte or a set: its text; "^", "$", "(", "|" and "" (a way), "{" (a repetition)
	kids        []*made
	holds       string // of a byte or a set
	number      int    // of a bracket
	least, most int    // of a repetition; most -1: any number
	tail        string // of a repetition: its text
}

func (m *made) text() string {
	out := ""
	for i, k := range m.kids {
		if i > 0 && m.sign == "|" {
			out += "|"
		}
		out += k.text()
	}
	switch m.sign {
	case "(":
		return "(" + out + ")"
	case "{":
		return out + m.tail
	case "|", "":
		return out
	}
	return m.sign
}

// stretch asks about m, or about what of it comes behind its first steps.
type stretch struct {
	m              *made
	step, from, to int
}

type words struct {
	text  string
	known map[stretch]bool
	got   []api.Span
}

func (w *words) matches(s stretch) bool {
	if answer, ok := w.known[s]; ok {
		return answer
	}
	answer := w.work(s)
	w.known[s] = answer
	return answer
}

func (w *words) work(s stretch) bool {
	empty := s.from == s.to
	switch m := s.m; m.sign {
	case "^":
		return empty && s.from == 0
	case "$":
		return empty && s.from == len(w.text)
	case "(":
		return w.matches(stretch{m.kids[0], 0, s.from, s.to})
	case "|":
		for _, k := range m.kids {
			if w.matches(stretch{k, 0, s.from, s.to}) {
				return true
			}
		}
		return false
	case "":
		return s.step == len(m.kids) && empty || s.step < len(m.kids) && w.split(s) >= 0
	case "{":
		if s.step >= m.least && empty {
			return true
		}
		return (m.most < 0 || s.step < m.most) && w.split(s) >= 0
	default:
		return s.to == s.from+1 && strings.IndexByte(m.holds, w.text[s.from]) >= 0
	}
}

// kid is what matches the next step.
func (s stretch) kid() *made {
	if s.m.sign == "{" {
		return s.m.kids[0]
	}
	return s.m.kids[s.step]
}

// split is the end of the longest beginning that the next step matches while
// what is to come behind it matches the rest; -1, if there is none.
func (w *words) split(s stretch) int {
	least := s.from
	if s.m.sign == "{" && s.step >= s.m.least {
		least++
	}
	for middle := s.to; middle >= least; middle-- {
		if w.matches(stretch{s.kid(), 0, s.from, middle}) && w.matches(stretch{s.m, s.step + 1, middle, s.to}) {
			return middle
		}
	}
	return -1
}

// give tells the brackets what they get.
func (w *words) give(s stretch) {
	switch m := s.m; m.sign {
	case "(":
		w.got[m.number] = api.Span{From: s.from, To: s.to}
		w.give(stretch{m.kids[0], 0, s.from, s.to})
	case "|":
		for _, k := range m.kids {
			if first := (stretch{k, 0, s.from, s.to}); w.matches(first) {
				w.give(first)
				return
			}
		}
	case "", "{":
		if m.sign == "" && s.step == len(m.kids) || m.sign == "{" && s.step >= m.least && s.from == s.to {
			return
		}
		middle := w.split(s)
		w.give(stretch{s.kid(), 0, s.from, middle})
		w.give(stretch{m, s.step + 1, middle, s.to})
	}
}

func (m *made) match(groups int, text string) []api.Span { return m.matchFrom(0, groups, text) }

// matchFrom is the first match that begins at a place or behind it.
func (m *made) matchFrom(place, groups int, text string) []api.Span {
	w := &words{text: text, known: map[stretch]bool{}}
	for from := place; from <= len(text); from++ {
		for to := len(text); to >= from; to-- {
			if w.matches(stretch{m, 0, from, to}) {
				w.got = []api.Span{{From: from, To: to}}
				for range groups {
					w.got = append(w.got, api.Span{From: -1, To: -1})
				}
				w.give(stretch{m, 0, from, to})
				return w.got
			}
		}
	}
	return nil
}

// maker makes patterns by chance.
type maker struct {
	*rand.Rand
	groups int
}

func (k *maker) pattern(depth int) *made {
	m := &made{sign: "|"}
	for range 1 + k.Intn(5)/2 {
		m.kids = append(m.kids, k.way(depth))
	}
	return m
}

func (k *maker) way(depth int) *made {
	m := &made{}
	for range 1 + k.Intn(7)/2 {
		m.kids = append(m.kids, k.part(depth))
	}
	return m
}

func (k *maker) part(depth int) *made {
	m := &made{sign: "{", kids: []*made{k.one(depth)}}
	switch k.Intn(9) {
	case 0, 1:
		m.most, m.tail = -1, "*"
	case 2:
		m.least, m.most, m.tail = 1, -1, "+"
	case 3:
		m.most, m.tail = 1, "?"
	case 4:
		m.least = k.Intn(4)
		m.most = m.least
		m.tail = "{" + strconv.Itoa(m.least) + "}"
	case 5:
		m.least = k.Intn(4)
		m.most = m.least + k.Intn(3)
		m.tail = "{" + strconv.Itoa(m.least) + "," + strconv.Itoa(m.most) + "}"
	default:
		return m.kids[0]
	}
	return m
}

func (k *maker) one(depth int) *made {
	switch k.Intn(12) {
	case 0:
		return &made{sign: "^"}
	case 1:
		return &made{sign: "$"}
	case 2:
		return &made{sign: ".", holds: "abc\n"}
	case 3:
		return &made{sign: "[^a]", holds: "bc\n"}
	case 4:
		return &made{sign: "b", holds: "b"}
	case 5, 6, 7:
		return &made{sign: "a", holds: "a"}
	}
	if depth == api.MaxDepth || k.groups == api.MaxGroups {
		return &made{sign: "[bc]", holds: "bc"}
	}
	k.groups++
	number := k.groups
	return &made{sign: "(", number: number, kids: []*made{k.pattern(depth + 1)}}
}

func (k *maker) line() string {
	out := ""
	for range k.Intn(8) {
		out += "aaabbc"[k.Intn(6):][:1]
	}
	return out
}

func TestMatchByTheWordsOfTheDocument(t *testing.T) {
	k := &maker{Rand: rand.New(rand.NewSource(2))}
	seen, nils := 0, 0
	for seen < 20000 {
		k.groups = 0
		m := k.pattern(0)
		text := m.text()
		if len(text) > api.MaxPattern {
			continue
		}
		line := k.line()
		want := m.match(k.groups, line)
		wantMatch(t, text, line, told(want))
		if want == nil {
			nils++
		}
		seen++
	}
	if nils < seen/100 || nils > seen/2 {
		t.Errorf("of %d patterns %d match nowhere: too one-sided", seen, nils)
	}
}

// TestMatchByTheLibrary asks the language's library, which finds the same whole
// match in longer texts, but gives brackets by other rules.
func TestMatchByTheLibrary(t *testing.T) {
	k := &maker{Rand: rand.New(rand.NewSource(3))}
	for range 20000 {
		k.groups = 0
		text := k.pattern(0).text()
		if len(text) > api.MaxPattern {
			continue
		}
		other := regexp.MustCompile("(?s)" + text)
		other.Longest()
		line := strings.Repeat("c", k.Intn(3))
		for len(line) < 20 {
			line += k.line()
		}
		spans, e := linework.Match(text, line)
		want := other.FindStringIndex(line)
		if e != api.OK || (want == nil) != (spans == nil) || want != nil && (spans[0] != api.Span{From: want[0], To: want[1]}) {
			t.Errorf("P4: Match(%q, %q) = %s, %d, want %v", text, line, told(spans), e, want)
		}
	}
}
