package linework_test

import (
	"maps"
	"math/rand"
	"regexp"
	"strings"
	"testing"

	"linework/api"
	"linework/linework"
)

// The document's grammar of scripts, word by word, as that of patterns in
// place_test.go: each function gives all places at which the thing that it is
// named for can end.

type places map[int]bool

func (p places) add(others places) {
	for at := range others {
		p[at] = true
	}
}

// any gives the places behind any number of these bytes.
func (g grammar) any(at int, these string) places {
	out := places{at: true}
	for ; g.is(at, these); at++ {
		out[at+1] = true
	}
	return out
}

func (g grammar) commands(at, depth int) places {
	out := g.any(at, " ;\n")
	work := []int{}
	for s := range out {
		work = append(work, s)
	}
	for len(work) > 0 {
		s := work[0]
		work = work[1:]
		for e := range g.command(s, depth) {
			if !g.parted(e) {
				continue
			}
			for n := range g.any(e, " ;\n") {
				if !out[n] {
					out[n] = true
					work = append(work, n)
				}
			}
		}
	}
	return out
}

func (g grammar) parted(at int) bool {
	for g.is(at, " ") {
		at++
	}
	return at == len(g) || g.is(at, ";\n}")
}

func (g grammar) command(at, depth int) places {
	ahead := places{at: true}
	for e := range g.address(at) {
		ahead.add(g.any(e, " "))
	}
	turned := places{}
	for e := range ahead {
		if g.is(e, "!") {
			turned.add(g.any(e+1, " "))
		}
	}
	ahead.add(turned)
	out := places{}
	for e := range ahead {
		out.add(g.what(e, depth, e == at))
	}
	return out
}

func (g grammar) address(at int) places {
	out := g.where(at)
	second := places{}
	for e := range out {
		if g.is(e, ",") {
			second.add(g.where(e + 1))
		}
	}
	out.add(second)
	return out
}

func (g grammar) where(at int) places {
	out := places{}
	if g.is(at, "$") {
		out[at+1] = true
	}
	for n := 1; n <= 4 && g.is(at+n-1, "0123456789"); n++ {
		if strings.Trim(string(g[at:at+n]), "0") != "" {
			out[at+n] = true
		}
	}
	if end, _, ok := g.slashed(at); ok {
		out[end] = true
	}
	return out
}

var unslashed = regexp.MustCompile(`(?s)^([^/\\]|\\.)*$`)

// slashed reads a pattern between two `/`, and tells where it ends and how many brackets it has.
func (g grammar) slashed(at int) (int, int, bool) {
	if !g.is(at, "/") {
		return 0, 0, false
	}
	for end := at + 2; end < len(g); end++ {
		inner := string(g[at+1 : end])
		if !g.is(end, "/") || !unslashed.MatchString(inner) {
			continue
		}
		for s := range grammar(inner).pattern(spot{}, 0) {
			if s.at == len(inner) {
				return end + 1, s.groups, true
			}
		}
	}
	return 0, 0, false
}

func (g grammar) what(at, depth int, bare bool) places {
	out := places{}
	switch {
	case g.is(at, "{") && depth < 5:
		for e := range g.commands(at+1, depth+1) {
			if g.is(e, "}") {
				out[e+1] = true
			}
		}
	case g.is(at, "dDnNpPgGhHx=q"):
		out[at+1] = true
	case g.is(at, "aic") && g.is(at+1, " "):
		end := strings.IndexByte(string(g[at:])+"\n", '\n')
		out[at+end] = true
	case g.is(at, "bt"), g.is(at, ":") && bare:
		out = g.any(at+1, "abcdefghijklmnopqrstuvwxyz")
		maps.DeleteFunc(out, func(end int, _ bool) bool {
			return end > at+9 || end == at+1 && g.is(at, ":")
		})
	case g.is(at, "s"):
		return g.put(at + 1)
	case g.is(at, "y"):
		return g.change(at + 1)
	}
	return out
}

var (
	template = regexp.MustCompile(`^([^\n/\\&]|&|\\[1-9n\\/&])*/`)
	flags    = regexp.MustCompile(`^[gp1-9]*`)
)

func (g grammar) put(at int) places {
	out := places{}
	end, groups, ok := g.slashed(at)
	if !ok {
		return out
	}
	text := template.FindString(string(g[end:]))
	plain := strings.ReplaceAll(text, `\\`, "")
	for n := groups + 1; n <= 9; n++ {
		if strings.Contains(plain, `\`+string(byte('0'+n))) {
			return out
		}
	}
	if text == "" {
		return out
	}
	end += len(text)
	all := flags.FindString(string(g[end:]))
	for n := 0; n <= len(all); n++ {
		gs, ps := strings.Count(all[:n], "g"), strings.Count(all[:n], "p")
		if gs <= 1 && ps <= 1 && n-gs-ps <= 1 {
			out[end+n] = true
		}
	}
	return out
}

var bothRows = regexp.MustCompile(`^/((?:[^\n/\\]|\\[n\\/])*)/((?:[^\n/\\]|\\[n\\/])*)/`)

func (g grammar) change(at int) places {
	found := bothRows.FindStringSubmatch(string(g[at:]))
	if found == nil {
		return places{}
	}
	unescape := strings.NewReplacer(`\n`, "\n", `\\`, `\`, `\/`, "/")
	from, to := unescape.Replace(found[1]), unescape.Replace(found[2])
	for i := range len(from) {
		if strings.IndexByte(from[i+1:], from[i]) >= 0 {
			return places{}
		}
	}
	if len(from) != len(to) {
		return places{}
	}
	return places{at + len(found[0]): true}
}

func isScript(s string) bool { return grammar(s).commands(0, 0)[len(s)] }

// tails gives texts of which one makes a script of whatever can become one.
func tails(s string) []string {
	out := []string{"", "p", "1p", "a", " ", "/a//", "///"}
	if strings.Contains(s, "s") {
		out = append(out, "/", "n/")
	}
	if strings.Contains(s, "/") {
		for _, tail := range []string{"", "a", "]", "n", "}", "9}", "a]", "n]", "}]", "\xff]"} {
			for n := range min(strings.Count(s, "("), 5) + 1 {
				rest := tail + strings.Repeat(")", n) + "/"
				out = append(out, rest+"p", rest+"/")
			}
		}
	}
	if y := strings.IndexByte(s, 'y'); y >= 0 {
		for n := range len(s) - y {
			rest := strings.Repeat("a", n) + "/"
			out = append(out, rest, "n"+rest)
			for _, last := range []string{"", "n", "\\", "/"} {
				out = append(out, last+"/"+rest)
			}
		}
	}
	return out
}

func beginsScript(s string) bool {
	for n := range min(strings.Count(s, "{"), 5) + 1 {
		for _, tail := range tails(s) {
			if n > 0 { // a text ends at the newline
				tail += "\n" + strings.Repeat("}", n)
			}
			if isScript(s + tail) {
				return true
			}
		}
	}
	return false
}

// checkScriptPlace asks for s, which is a byte longer than something that
// begins a script, and tells whether s begins one too.
func checkScriptPlace(t *testing.T, s string) bool {
	t.Helper()
	if !beginsScript(s) {
		wantScriptPlace(t, s, len(s)-1)
		wantScriptPlace(t, s+"p", len(s)-1)
		wantScriptPlace(t, s+"/}\n", len(s)-1)
		return false
	}
	if !isScript(s) {
		wantScriptPlace(t, s, len(s))
	} else if e, at := linework.Check(s); e == api.ErrScript {
		t.Errorf("P6: Check(%q) = ErrScript, %d, but it is a script", s, at)
	}
	return true
}

// some are a byte of each kind: all that the grammar speaks of, and the edges.
func some() []string {
	out := []string{"\x00", "\t", "\n", "\x1f", "\x7f", "\x80", "\xfe", "\xff"}
	for b := byte(' '); b <= '~'; b++ {
		out = append(out, string([]byte{b}))
	}
	return out
}

// A wrong byte, and the end, at each place of each command and each kind of address.
func TestEveryByteAtEveryPlace(t *testing.T) {
	for _, s := range []string{
		"d;D;n;N;p;P;g;G;h;H;x;=;q", "a x", "i x\n", "c ", ":abcdefgh;b", "b\n:abcdefgh", "tabcdefgh", "{a x\n};p", "{ p };{}", "{{{{{p}}}}}",
		"12 p", "0012,$p", "9999p", "$ ! {p}", "1,2!p", "/a/,/[^a-c\\/]/ p", "/(a|b)*/d", "! d",
		"s/a/b/g3p", "s/(a)(b)/&\\2\\n\\\\/pg ;p", "s/[~-\xff]\\/a{1,2}/x/", "y/ab\\n\\\\\\//cc\\n\\/\\\\/ ;", "y///",
	} {
		t.Run(s, func(t *testing.T) {
			t.Parallel()
			for n := range len(s) + 1 {
				for _, b := range some() {
					checkScriptPlace(t, s[:n]+b)
				}
			}
			for n := range len(s) {
				checkScriptPlace(t, s[:n+1])
			}
		})
	}
}

func TestPlaceOfAllShortScripts(t *testing.T) {
	const signs = "p10,$/!{}; \na:bsyg\\n&"
	work := []string{""}
	for len(work) > 0 {
		s := work[0]
		work = work[1:]
		for i := range signs {
			if next := s + signs[i:i+1]; checkScriptPlace(t, next) && len(next) < 3 {
				work = append(work, next)
			}
		}
	}
}

func TestPlaceOfLongScripts(t *testing.T) {
	for seed, from := range []string{
		"pdq{}{};;\n  !!a bt:x",
		"0123,,,$$//ap!{;} [-]\\^(",
		"s/s/s////ab\\\\n&12gp;()[-]\x00\xff\n",
		"y/y/y////abcdef\\\\\\n;}{\xff",
	} {
		t.Run(from, func(t *testing.T) {
			t.Parallel()
			chance := rand.New(rand.NewSource(int64(seed)))
			for range 20 {
				s := ""
				for tries := 0; tries < 100 && len(s) < 30; tries++ {
					i := chance.Intn(len(from))
					if next := s + from[i:i+1]; checkScriptPlace(t, next) {
						s = next
					}
				}
			}
		})
	}
}
