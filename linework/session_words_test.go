package linework_test

import (
	"math/rand"
	"strconv"
	"strings"
	"testing"

	"linework/api"
	"linework/linework"
)

// A row of a script made here, not read from a text: a command, a `:` or a `}`.
// What it means is written below as the document's words say it, always from
// the beginning of the input on: nothing is kept there to be gone on with.
type row struct {
	first, second *half
	not           bool
	letter        byte
	label         string // of : b t
	text          string // of a i c
	pattern       *made  // of s
	groups        int
	template      []string // pieces, as they are written
	number        int      // 0: none is written
	all, print    bool
	from, to      string // of y; `\n` stands for a newline
}

// half is one half of an address: a pattern, or a number, or `$` for 0.
type half struct {
	pattern *made
	number  int
}

func (h *half) written() string {
	switch {
	case h.pattern != nil:
		return "/" + h.pattern.text() + "/"
	case h.number == 0:
		return "$"
	}
	return strconv.Itoa(h.number)
}

func (r *row) written() string {
	s := ""
	if r.first != nil {
		s = r.first.written()
	}
	if r.second != nil {
		s += "," + r.second.written()
	}
	if r.not {
		s += "!"
	}
	s += string(r.letter)
	switch r.letter {
	case ':', 'b', 't':
		s += r.label
	case 'a', 'i', 'c':
		s += " " + r.text
	case 'y':
		s += "/" + r.from + "/" + r.to + "/"
	case 's':
		s += "/" + r.pattern.text() + "/" + strings.Join(r.template, "") + "/"
		if r.all {
			s += "g"
		}
		if r.number > 0 {
			s += strconv.Itoa(r.number)
		}
		if r.print {
			s += "p"
		}
	}
	return s
}

// session is all that the document's words speak of.
type session struct {
	rows        []row
	l           api.Limits
	fed         string
	ended       bool
	read        int // bytes of the input that were read
	out         string
	space, hold string
	number      int
	looked      int
	put         bool
	toCome      []string
	open        map[int]bool
}

// What a session panics with: that it does not know how it goes on, or how it stopped.
type stopped int

const unknown stopped = api.Running

// edited is what an editor has put out that was fed so much, and its state.
func edited(rows []row, l api.Limits, fed string, ended bool) (out string, state int) {
	s := &session{rows: rows, l: l, fed: fed, ended: ended, open: map[int]bool{}}
	defer func() {
		out, state = s.out, int(recover().(stopped))
	}()
	for {
		s.cycle()
	}
}

func (s *session) say(text string) { s.out += text + "\n" }

// next tells whether there is a next line.
func (s *session) next() bool {
	if s.read == len(s.fed) && !s.ended {
		panic(unknown)
	}
	return s.read < len(s.fed)
}

// line is the next line; ahead stands what it is put behind.
func (s *session) line(ahead string) {
	line, _, whole := strings.Cut(s.fed[s.read:], "\n")
	if len(line) > s.l.Line {
		panic(stopped(api.LongLine))
	}
	if !whole && !s.ended {
		panic(unknown)
	}
	s.space = s.held(ahead + line)
	s.read = min(s.read+len(line)+1, len(s.fed))
	s.number++
	s.looked, s.put = 0, false
}

// held is a text that is to be in a space.
func (s *session) held(text string) string {
	if len(text) > s.l.Space {
		panic(stopped(api.Overflow))
	}
	return text
}

func (s *session) cycle() {
	if !s.next() {
		panic(stopped(api.Ended))
	}
	s.line("")
	for s.commands() {
	}
}

func (s *session) sayToCome() {
	for _, text := range s.toCome {
		s.say(text)
	}
	s.toCome = nil
}

func (s *session) atTheEnd() {
	if !s.l.Quiet {
		s.say(s.space)
	}
	s.sayToCome()
}

// behind is the place behind the row that closes the block that begins at another.
func (s *session) behind(at int) int {
	for depth := 0; ; at++ {
		switch s.rows[at].letter {
		case '{':
			depth++
		case '}':
			depth--
		}
		if depth == 0 {
			return at + 1
		}
	}
}

// goal is the place behind a label, or the end.
func (s *session) goal(label string) int {
	for i, r := range s.rows {
		if r.letter == ':' && r.label == label {
			return i
		}
	}
	return len(s.rows)
}

// selects is whether one half of an address selects.
func (s *session) selects(h *half) bool {
	switch {
	case h.pattern != nil:
		return h.pattern.match(api.MaxGroups, s.space) != nil
	case h.number == 0:
		return !s.next()
	}
	return s.number == h.number
}

func (s *session) selected(at int) bool {
	r := s.rows[at]
	switch {
	case r.first == nil:
		return true
	case r.second == nil:
		return s.selects(r.first)
	}
	isNumber := r.second.pattern == nil && r.second.number > 0
	isEnd := r.second.pattern == nil && r.second.number == 0
	passed := isNumber && r.second.number <= s.number
	if s.open[at] {
		s.open[at] = !(s.selects(r.second) || passed)
		return true
	}
	if !s.selects(r.first) {
		return false
	}
	s.open[at] = !(passed || isEnd && !s.next())
	return true
}

// commands does the commands of a cycle, and tells whether a new one begins
// without a line being read.
func (s *session) commands() bool {
	for at := 0; at < len(s.rows); {
		r := s.rows[at]
		if r.letter == ':' || r.letter == '}' {
			at++
			continue
		}
		if s.looked == s.l.Fuel {
			panic(stopped(api.Spent))
		}
		s.looked++
		if s.selected(at) == r.not {
			if r.letter == '{' {
				at = s.behind(at)
			} else {
				at++
			}
			continue
		}
		switch r.letter {
		case 'c':
			s.say(r.text)
			s.sayToCome()
			return false
		case 'd':
			s.sayToCome()
			return false
		case 'D':
			_, rest, ok := strings.Cut(s.space, "\n")
			s.sayToCome()
			if ok {
				s.space = rest
			}
			return ok
		case 'b':
			at = s.goal(r.label)
			continue
		case 't':
			if s.put {
				s.put = false
				at = s.goal(r.label)
				continue
			}
		}
		s.do(r)
		at++
	}
	s.atTheEnd()
	return false
}

// do does what goes on with the next command, if with any.
func (s *session) do(r row) {
	switch r.letter {
	case 'n', 'N':
		if !s.next() {
			s.atTheEnd()
			panic(stopped(api.Ended))
		}
		if r.letter == 'N' {
			s.line(s.space + "\n")
			return
		}
		s.atTheEnd()
		s.line("")
	case 'p':
		s.say(s.space)
	case 'P':
		first, _, _ := strings.Cut(s.space, "\n")
		s.say(first)
	case 'g':
		s.space = s.hold
	case 'G':
		s.space = s.held(s.space + "\n" + s.hold)
	case 'h':
		s.hold = s.space
	case 'H':
		s.hold = s.held(s.hold + "\n" + s.space)
	case 'x':
		s.space, s.hold = s.hold, s.space
	case '=':
		s.say(strconv.Itoa(s.number))
	case 'q':
		s.atTheEnd()
		panic(stopped(api.Quit))
	case 'a':
		s.toCome = append(s.toCome, r.text)
	case 'i':
		s.say(r.text)
	case 's':
		s.substitute(r)
	case 'y':
		plain := strings.NewReplacer(`\n`, "\n")
		from, to := plain.Replace(r.from), plain.Replace(r.to)
		s.space = string(mapped([]byte(s.space), from, to))
	}
}

func mapped(text []byte, from, to string) []byte {
	for i, b := range text {
		if at := strings.IndexByte(from, b); at >= 0 {
			text[i] = to[at]
		}
	}
	return text
}

// found are the matches in the pattern space, one behind the other.
func (s *session) found(r row) [][]api.Span {
	var out [][]api.Span
	spans := r.pattern.matchFrom(0, r.groups, s.space)
	for spans != nil {
		out = append(out, spans)
		end := spans[0].To
		spans = r.pattern.matchFrom(end, r.groups, s.space)
		if spans != nil && spans[0].From == end && spans[0].To == end {
			spans = r.pattern.matchFrom(end+1, r.groups, s.space)
		}
	}
	return out
}

func (s *session) substitute(r row) {
	text, done, put := "", 0, false
	for i, spans := range s.found(r) {
		if number := max(r.number, 1); i+1 < number || i+1 > number && !r.all {
			continue
		}
		text += s.space[done:spans[0].From] + s.filled(r.template, spans)
		done = spans[0].To
		put = true
	}
	if !put {
		return
	}
	s.space = s.held(text + s.space[done:])
	s.put = true
	if r.print {
		s.say(s.space)
	}
}

func (s *session) filled(template []string, spans []api.Span) string {
	out := ""
	for _, piece := range template {
		switch {
		case piece == `\n`:
			out += "\n"
		case piece == "&":
			out += s.space[spans[0].From:spans[0].To]
		case piece[0] == '\\':
			if got := spans[piece[1]-'0']; got.From >= 0 {
				out += s.space[got.From:got.To]
			}
		default:
			out += piece
		}
	}
	return out
}

// The scripts that are made by chance.

func (k *maker) pick(from ...string) string { return from[k.Intn(len(from))] }

// short is a short pattern, and how many brackets it has.
func (k *maker) short() (*made, int) {
	if k.Intn(5) == 0 {
		return &made{sign: `\n`, holds: "\n"}, 0
	}
	for {
		k.groups = 0
		if m := k.pattern(3); len(m.text()) <= 10 {
			return m, k.groups
		}
	}
}

func (k *maker) half() *half {
	switch k.Intn(4) {
	case 0:
		return &half{}
	case 1:
		m, _ := k.short()
		return &half{pattern: m}
	}
	return &half{number: 1 + k.Intn(4)}
}

func (k *maker) command(letters string) row {
	r := row{letter: letters[k.Intn(len(letters))]}
	if k.Intn(2) == 0 {
		r.first = k.half()
		if k.Intn(2) == 0 {
			r.second = k.half()
		}
	}
	r.not = k.Intn(5) == 0
	switch r.letter {
	case 'b', 't':
		r.label = k.pick("", "x", "x", "y")
	case 'a', 'i', 'c':
		r.text = k.pick("", "one", " {;}", "$!d")
	case 'y':
		r.from = k.pick("ab", "abc", `\n`, `a\n`)
		for range strings.ReplaceAll(r.from, `\n`, "n") {
			r.to += k.pick("a", "b", "c", `\n`)
		}
	case 's':
		r.pattern, r.groups = k.short()
		for range k.Intn(4) {
			piece := k.pick("a", "b", "c", "&", `\n`, `\`)
			if piece == `\` {
				piece = "a"
				if r.groups > 0 {
					piece = `\` + strconv.Itoa(1+k.Intn(r.groups))
				}
			}
			r.template = append(r.template, piece)
		}
		r.all, r.print = k.Intn(3) == 0, k.Intn(4) == 0
		if k.Intn(3) == 0 {
			r.number = 1 + k.Intn(3)
		}
	}
	return r
}

// script is a row of commands with two labels in it, and their text.
func (k *maker) script() ([]row, string) {
	const letters = "{{dDDnnNNNpPgGhHxx=qaicbttttsssssssyy"
	var rows []row
	depth := 0
	for range k.Intn(9) {
		if depth > 0 && k.Intn(3) == 0 {
			rows = append(rows, row{letter: '}'})
			depth--
			continue
		}
		r := k.command(letters[2*min(depth/3, 1):])
		if r.letter == '{' {
			depth++
		}
		rows = append(rows, r)
	}
	for range depth {
		rows = append(rows, row{letter: '}'})
	}
	for _, label := range []string{"x", "y"} {
		at := k.Intn(len(rows) + 1)
		rows = append(rows[:at:at], append([]row{{letter: ':', label: label}}, rows[at:]...)...)
	}
	text := ""
	for i, r := range rows {
		text += r.written()
		switch {
		case strings.IndexByte("aic", r.letter) >= 0:
			text += "\n"
		case r.letter == '{' || i+1 < len(rows) && rows[i+1].letter == '}':
			text += k.pick("", " ", ";")
			if r.letter != '{' && k.Intn(2) == 0 {
				text += "\n"
			}
		default:
			text += k.pick(";", "\n", " ; ")
		}
	}
	return rows, text
}

func (k *maker) limits() api.Limits {
	l := api.Limits{Line: 80, Space: 80, Fuel: 100, Quiet: k.Intn(4) == 0}
	if k.Intn(4) == 0 {
		l.Line = 1 + k.Intn(7)
	}
	if k.Intn(3) > 0 {
		l.Space = 1 + k.Intn(14)
	}
	if k.Intn(3) > 0 {
		l.Fuel = 1 + k.Intn(20)
	}
	return l
}

func (k *maker) input() string {
	out := ""
	for range k.Intn(6) {
		out += k.line() + "\n"
	}
	if k.Intn(2) == 0 {
		out += k.line()
	}
	return out
}

// wantSession feeds an editor with an input, cut by chance, takes of it by
// chance, and asks after each piece what it has put out and how it stands.
func wantSession(t *testing.T, k *maker, rows []row, text string, l api.Limits, in string) int {
	t.Helper()
	e, errno := linework.Open(text, l)
	if errno != api.OK {
		t.Fatalf("P7: Open(%q, %v) = %d", text, l, errno)
	}
	taken := ""
	for fed := 0; ; {
		ended := fed == len(in)
		if ended {
			e.End()
		} else {
			n := 1 + k.Intn(min(len(in)-fed, 1+k.Intn(12)))
			e.Feed(in[fed : fed+n])
			fed += n
		}
		out, state := edited(rows, l, in[:fed], ended)
		if e.State() != state || e.Ready() != len(out)-len(taken) {
			t.Fatalf("P8: %q, %v, fed with %q (ended: %v): state %d and %d ready behind %q, want %d and %q", text, l, in[:fed], ended, e.State(), e.Ready(), taken, state, out)
		}
		if ended {
			taken += e.Take(1 << 40)
		} else {
			taken += e.Take(k.Intn(12) - 2)
		}
		if !strings.HasPrefix(out, taken) || ended && out != taken {
			t.Fatalf("P8, P9: %q, %v, of %q (ended: %v) makes %q, want %q", text, l, in[:fed], ended, taken, out)
		}
		if ended {
			return state
		}
	}
}

func TestSessionsByTheWordsOfTheDocument(t *testing.T) {
	k := &maker{Rand: rand.New(rand.NewSource(7))}
	var met [6]int
	for seen := 0; seen < 10000; {
		rows, text := k.script()
		if len(text) > api.MaxScript {
			continue
		}
		l := k.limits()
		in := k.input()
		for range 2 {
			met[wantSession(t, k, rows, text, l, in)]++
		}
		seen++
	}
	for state, count := range met {
		if (count == 0) != (state == api.Running) || state != api.Running && count < 400 {
			t.Errorf("too one-sided: the states %v", met)
		}
	}
}
