package linework_test

import (
	"slices"
	"strconv"
	"strings"
	"sync"
	"testing"

	"linework/api"
	"linework/linework"
)

// told writes spans as text: "0 2, -1 -1".
func told(spans []api.Span) string {
	if spans == nil {
		return "nil"
	}
	var out []string
	for _, s := range spans {
		out = append(out, strconv.Itoa(s.From)+" "+strconv.Itoa(s.To))
	}
	return strings.Join(out, ", ")
}

func wantMatch(t *testing.T, pattern, text, want string) {
	t.Helper()
	spans, e := linework.Match(pattern, text)
	if got := told(spans); got != want || e != api.OK {
		t.Errorf("P4, P5: Match(%q, %q) = %s, %d, want %s", pattern, text, got, e, want)
	}
}

type matchCase struct{ pattern, text, want string }

func wantMatches(t *testing.T, cases []matchCase) {
	t.Helper()
	for _, c := range cases {
		wantMatch(t, c.pattern, c.text, c.want)
	}
}

func TestMatchExamples(t *testing.T) {
	wantMatches(t, []matchCase{
		{"a|ab", "xab", "1 3"},
		{"(a|ab)(c|bcd)(d*)", "abcd", "0 4, 0 2, 2 3, 3 4"},
		{"(a*)*", "aab", "0 2, 0 2"},
		{"(a*)+", "b", "0 0, 0 0"},
		{"(a)|b", "b", "0 1, -1 -1"},
		{"x*", "ab", "0 0"},
		{"a{2,3}", "aaaaa", "0 3"},
		{"b$", "ab", "1 2"},
		{"b", "a", "nil"},
	})
}

func TestMatchBeginsFirst(t *testing.T) {
	wantMatches(t, []matchCase{
		{"a", "", "nil"}, {"a", "a", "0 1"}, {"a", "bab", "1 2"}, {"b*", "aab", "0 0"}, {"b+", "aabb", "2 4"}, {"a?", "ba", "0 0"},
		{"aa|b", "baa", "0 1"}, {"b|aa", "aab", "0 2"}, {"abc|b", "abd", "1 2"}, {"abcd|bc", "abce", "1 3"}, {"a|b*", "ca", "0 0"}, {"ab", "aab", "1 3"},
	})
}

func TestMatchIsTheLongest(t *testing.T) {
	wantMatches(t, []matchCase{
		{"a|aaa|aa", "aaaa", "0 3"}, {"x|xyz|xy", "wxyx", "1 3"}, {".*", "a\nb", "0 3"}, {".+b", "ababa", "0 4"}, {"a.?", "aa", "0 2"},
		{"(a|ab)(c|bcd)", "abcd", "0 4, 0 1, 1 4"}, {"(ab?)(b?c)?", "abc", "0 3, 0 2, 2 3"}, {"(a|b|ab)*c|abd", "abd", "0 3, -1 -1"}, {"a{1,2}(ab)?", "aab", "0 3, 1 3"},
	})
}

func TestFirstWayThatMatchesTheStretch(t *testing.T) {
	wantMatches(t, []matchCase{
		{"(a)|(a)", "a", "0 1, 0 1, -1 -1"}, {"(a)b|(ab)|(a)(b)", "ab", "0 2, 0 1, -1 -1, -1 -1, -1 -1"}, {"(a)|(ab)", "ab", "0 2, -1 -1, 0 2"},
		{"((a)|(a))b", "ab", "0 2, 0 1, 0 1, -1 -1"}, {"((a)|(ab))(b|c)", "abc", "0 3, 0 2, -1 -1, 0 2, 2 3"}, {"(a*)|(b)", "b", "0 1, -1 -1, 0 1"},
		{"((a)|(b)|(.))*", "abc", "0 3, 2 3, 0 1, 1 2, 2 3"}, {"(x)|(y)|(z)", "z", "0 1, -1 -1, -1 -1, 0 1"},
	})
}

func TestFirstPartGetsTheLongestBeginning(t *testing.T) {
	wantMatches(t, []matchCase{
		{"(a*)(a*)", "aa", "0 2, 0 2, 2 2"}, {"(a?)(a?)(a?)", "aa", "0 2, 0 1, 1 2, 2 2"}, {"(a|ab)(c|bcd)(d*)", "abcd", "0 4, 0 2, 2 3, 3 4"},
		{"(a|ab)(bcd|c)(d?)", "abcd", "0 4, 0 2, 2 3, 3 4"}, {"(a+)(ab)", "aaab", "0 4, 0 2, 2 4"}, {"(.*)(.)$", "abc", "0 3, 0 2, 2 3"}, {"(a|ab|abc)(.*)c", "abcc", "0 4, 0 3, 3 3"},
		{"(b|ba)(a|n)(n|a)?", "bana", "0 4, 0 2, 2 3, 3 4"}, {"x(a{0,2})(a{0,2})y", "xaaay", "0 5, 1 3, 3 4"},
	})
}

func TestRepetitionsThatMatch(t *testing.T) {
	wantMatches(t, []matchCase{
		{"a{0}", "aa", "0 0"}, {"a{1}", "aa", "0 1"}, {"a{2}", "aaa", "0 2"}, {"a{3}", "aa", "nil"}, {"a{0,1}", "aa", "0 1"}, {"a{0,9}", "aaaaaaaaaa", "0 9"}, {"a{9}", "aaaaaaaa", "nil"}, {"a{9}", "aaaaaaaaa", "0 9"},
		{"a{2,4}b", "aaaaab", "1 6"}, {"a{2,4}$", "aaaaa", "1 5"}, {"(ab){2}", "ababab", "0 4, 2 4"}, {"(ab|c){1,2}", "abcab", "0 3, 2 3"}, {"a{0}b", "ab", "1 2"}, {"(a){0}", "a", "0 0, -1 -1"},
		{"(a){0,1}", "b", "0 0, -1 -1"}, {"(a)?b", "b", "0 1, -1 -1"}, {"(a)+", "aaa", "0 3, 2 3"}, {"(a)*b", "aab", "0 3, 1 2"}, {"(a{2}){2}", "aaaaa", "0 4, 2 4"}, {"(a{1,2}){2}", "aaa", "0 3, 2 3"}, {"(a{1,2}){2,3}", "aaaa", "0 4, 2 4"},
		{"(aa|aaa)*", "aaaaaaa", "0 7, 5 7"}, {"(aaa|aa){2,3}", "aaaaaaa", "0 7, 5 7"}, {"(a|aa){3}", "aaaa", "0 4, 3 4"},
	})
}

func TestRepetitionsOfWhatCanBeEmpty(t *testing.T) {
	wantMatches(t, []matchCase{
		// The times that must be may be empty, those that may be are not.
		{"(a*)*", "b", "0 0, -1 -1"}, {"(a*)+", "b", "0 0, 0 0"}, {"(a*)?", "b", "0 0, -1 -1"}, {"(a*){0,3}", "b", "0 0, -1 -1"}, {"(a*){1,3}", "b", "0 0, 0 0"}, {"(a*){3}", "b", "0 0, 0 0"}, {"(a*){0}", "b", "0 0, -1 -1"},
		{"(a*)*", "aa", "0 2, 0 2"}, {"(a*)+", "aa", "0 2, 0 2"}, {"(a*){1,2}", "aa", "0 2, 0 2"}, {"(a*){2}", "aa", "0 2, 2 2"}, {"(a*){2,3}", "aa", "0 2, 2 2"}, {"(a?){2}", "aaa", "0 2, 1 2"}, {"(a?){3}", "aa", "0 2, 2 2"}, {"(a?){2,3}", "aaaa", "0 3, 2 3"},
		{"(a?){2,9}", "a", "0 1, 1 1"}, {"(a|b*){2}c", "abbc", "0 4, 1 3"}, {"(a|b*){3}c", "abbc", "0 4, 3 3"}, {"(a|b*)*c", "abbc", "0 4, 1 3"},
		// A time that must be is empty ahead of one that is not, where only so all match.
		{"(^|a){2}", "a", "0 1, 0 1"}, {"(^|a){3}", "aa", "0 2, 1 2"}, {"((^)|(a)){2}", "a", "0 1, 0 1, 0 0, 0 1"}, {"(a|$){2}", "a", "0 1, 1 1"}, {"((a)|($)){3}", "a", "0 1, 1 1, 0 1, 1 1"},
		// Nested.
		{"((a*)*)*", "b", "0 0, -1 -1, -1 -1"}, {"((a*)*)+", "b", "0 0, 0 0, -1 -1"}, {"((a*)+)*", "b", "0 0, -1 -1, -1 -1"}, {"((a*)+)+", "b", "0 0, 0 0, 0 0"}, {"((a*)+)+", "aa", "0 2, 0 2, 0 2"}, {"((a*){2}){2}", "aa", "0 2, 2 2, 2 2"}, {"((a?){2}){2}", "aaa", "0 3, 2 3, 3 3"}, {"((a?)*){2}", "aaa", "0 3, 3 3, 2 3"},
		{"((a?b?){2}){2}", "ab", "0 2, 2 2, 2 2"}, {"((a*)(b*))*", "abb", "0 3, 0 3, 0 1, 1 3"}, {"((a*)(b*)){2}", "abb", "0 3, 3 3, 3 3, 3 3"},
	})
}

func TestBracketsWithinRepetitions(t *testing.T) {
	wantMatches(t, []matchCase{
		{"(a|b)*", "abba", "0 4, 3 4"}, {"((a)|b)*", "ab", "0 2, 1 2, 0 1"}, {"((a)|(b))*", "ab", "0 2, 1 2, 0 1, 1 2"}, {"((a)|(b))*", "bab", "0 3, 2 3, 1 2, 2 3"}, {"((a)|(b)|c)*", "aacc", "0 4, 3 4, 1 2, -1 -1"},
		{"((a)|b){2}", "ab", "0 2, 1 2, 0 1"}, {"((a)?b)*", "abb", "0 3, 2 3, 0 1"}, {"((a)*b)*", "aabb", "0 4, 3 4, 1 2"}, {"((a)*b)*", "babab", "0 5, 3 5, 3 4"}, {"(a(b)?)+", "aba", "0 3, 2 3, 1 2"}, {"(a(b)?)+", "aab", "0 3, 1 3, 2 3"},
		{"((x)|(y)|z){3}", "xyz", "0 3, 2 3, 0 1, 1 2"}, {"((ab)|(abc)|d)*", "abcd", "0 4, 3 4, -1 -1, 0 3"}, {"(((a)|b)|c)*", "abc", "0 3, 2 3, 1 2, 0 1"}, {"(a(b(c)*)*)*", "abcab", "0 5, 3 5, 4 5, 2 3"},
	})
}

func TestBracketsInTheirOrder(t *testing.T) {
	wantMatches(t, []matchCase{
		{"((a)(b))(c)", "abc", "0 3, 0 2, 0 1, 1 2, 2 3"}, {"(((a)))", "xa", "1 2, 1 2, 1 2, 1 2"}, {"(a)(b)(c)(d)(e)(f)(g)(h)(i)", "-abcdefghi", "1 10, 1 2, 2 3, 3 4, 4 5, 5 6, 6 7, 7 8, 8 9, 9 10"}, {"(((((a)))))", "a", "0 1, 0 1, 0 1, 0 1, 0 1, 0 1"},
		{"a(b|(c))d|(e)", "acd", "0 3, 1 2, 1 2, -1 -1"}, {"a(b|(c))d|(e)", "e", "0 1, -1 -1, -1 -1, 0 1"}, {"(^)($)", "", "0 0, 0 0, 0 0"}, {"\\((a)\\)", "(a)", "0 3, 1 2"}, {"[(](a)", "(a", "0 2, 1 2"},
	})
}

func TestBeginAndEnd(t *testing.T) {
	wantMatches(t, []matchCase{
		{"^", "", "0 0"}, {"$", "", "0 0"}, {"^$", "", "0 0"}, {"^$", "a", "nil"}, {"$^", "", "0 0"}, {"^", "ab", "0 0"}, {"$", "ab", "2 2"}, {"^b", "ab", "nil"}, {"a$", "ab", "nil"}, {"^a", "aa", "0 1"}, {"a$", "aa", "1 2"}, {"a^b", "ab", "nil"}, {"a$b", "ab", "nil"}, {"^^a$$", "a", "0 1"},
		// Only the text's own beginning and end count, not those of its lines.
		{"^b", "a\nb", "nil"}, {"a$", "a\nb", "nil"}, {"a$", "a\n", "nil"}, {"$", "a\n", "2 2"}, {"^.*$", "a\nb\n", "0 4"},
		// Within repetitions and brackets.
		{"^*", "a", "0 0"}, {"^*a", "ba", "1 2"}, {"^+a", "ba", "nil"}, {"^?a", "ba", "1 2"}, {"^{2}a", "aa", "0 1"}, {"a$*b", "ab", "0 2"}, {"a$+", "aa", "1 2"}, {"a${3}", "aa", "1 2"}, {"(^)*a", "a", "0 1, -1 -1"}, {"(^)+a", "a", "0 1, 0 0"}, {"(^)?a", "a", "0 1, -1 -1"}, {"a($)+", "a", "0 1, 1 1"}, {"a($)*", "a", "0 1, -1 -1"},
		{"(^a|b$)*", "ab", "0 2, 1 2"}, {"(^a|b$)+", "aab", "0 1, 0 1"}, {"(^a)*", "aa", "0 1, 0 1"}, {"(a$)*", "aa", "0 0, -1 -1"}, {"(a|^)b", "cb", "nil"}, {"(a|^)b", "bab", "0 1, 0 0"}, {"b(a|$)", "bbab", "1 3, 2 3"}, {"(^|a)(b|$)", "ab", "0 2, 0 1, 1 2"}, {"(^|b)*a", "bba", "0 3, 1 2"}, {"(a|(^))*b", "ab", "0 2, 0 1, -1 -1"},
	})
}

func TestSetsThatMatch(t *testing.T) {
	wantMatches(t, []matchCase{
		{"[abc]+", "xcabx", "1 4"}, {"[^abc]+", "axyb", "1 3"}, {"[a-c]{2}", "xab", "1 3"}, {"[^a]", "a\nb", "1 2"}, {"[\\]\\-]+", "a]-]b", "1 4"}, {"[\\n]", "ab\n", "2 3"}, {"[.]", "a.", "1 2"}, {"[$^]+", "a^$", "1 3"}, {"[^^]", "^a", "1 2"},
		{"]}", "a]}", "1 3"}, {"a.c", "abbabc", "3 6"}, {"\\.\\*", "a.*", "1 3"}, {"\\n", "a\nb", "1 2"}, {"\\/\\&", "/&", "0 2"}, {"n", "\nn", "1 2"},
	})
}

func TestMatchAnyBytes(t *testing.T) {
	for b := range 256 {
		one := string([]byte{byte(b)})
		wantMatch(t, ".", one, "0 1")
		wantMatch(t, "[\x00-\xff]", one, "0 1")
		wantMatch(t, "[^\x00-\xff]", one, "nil")
		other := string([]byte{byte(b + 1)})
		if strings.IndexByte("\n\\.^$()[*+?{|", byte(b)) < 0 {
			wantMatch(t, one, other+one+other, "1 2")
		}
		if strings.IndexByte("\n\\]-^", byte(b)) < 0 {
			wantMatch(t, "["+one+"]", other+one, "1 2")
			wantMatch(t, "[^"+one+"]", one+other, "1 2")
		}
		if strings.IndexByte("\\.^$()[]*+?{}|/&-", byte(b)) >= 0 {
			wantMatch(t, "\\"+one, other+one, "1 2")
			wantMatch(t, "[\\"+one+"]", other+one, "1 2")
		}
	}
	wantMatch(t, "\\n\x00\xff", "\xff\x00\n\x00\xff", "2 5")
	wantMatch(t, "(\x00|\xff)*", "\x00\xff\n", "0 2, 1 2")
	wantMatch(t, "[\x80-\xff]", "a\xc3\xa9", "1 2") // bytes, not letters
}

func wantMatchError(t *testing.T, pattern, text string, want api.Errno) {
	t.Helper()
	if spans, e := linework.Match(pattern, text); spans != nil || e != want {
		t.Errorf("P4: Match(%.50q, %d bytes) = %v, %d, want nil, %d", pattern, len(text), spans, e, want)
	}
}

func TestMatchBounds(t *testing.T) {
	a := func(n int) string { return strings.Repeat("a", n) }
	wantMatch(t, a(40), a(80), "0 40")
	wantMatch(t, a(39)+"b", a(79)+"b", "40 80")
	wantMatch(t, "b", a(79)+"b", "79 80")
	wantMatch(t, "$", a(80), "80 80")
	wantMatch(t, "(a*)($)", a(80), "0 80, 0 80, 80 80")
	wantMatch(t, "(.)$", a(64), "63 64, 63 64")
	wantMatch(t, "(.)$", a(65), "64 65, 64 65")
	wantMatch(t, "(a{9}){7}(a)(a)b", a(65)+"b", "0 66, 54 63, 63 64, 64 65")
	wantMatchError(t, a(41), "a", api.ErrLong)
	wantMatchError(t, "a", a(81), api.ErrLong)
	wantMatchError(t, "a", a(1<<20), api.ErrLong)
	wantMatchError(t, a(1<<20), a(1<<20), api.ErrLong)
	// The error that is named first.
	wantMatchError(t, "*", a(81), api.ErrLong)
	wantMatchError(t, strings.Repeat("*", 41), "", api.ErrLong)
	wantMatchError(t, "*", a(80), api.ErrPattern)
	for _, s := range []string{"", "*", "a**", "(a", "a|", "()", "[b-a]", "a{3,2}", "\\d", "((((((a))))))", strings.Repeat("(a)", 10), "\n", "\\"} {
		wantMatchError(t, s, "", api.ErrPattern)
		wantMatchError(t, s, "a", api.ErrPattern)
	}
}

// heavy are patterns that nest repetitions, and what they match in eighty a.
var heavy = []matchCase{
	{"(((((.*)*)*)*)*)*", "", "0 80, 0 80, 0 80, 0 80, 0 80, 0 80"},
	{"(((((a*)+)+)+)+)+b", "", "nil"},
	{"(((((a+)+)+)+)+)+$", "", "0 80, 0 80, 0 80, 0 80, 0 80, 0 80"},
	{"(((((a?){9}){9}){9}){9}){9}", "", "0 80, 80 80, 80 80, 80 80, 80 80, 80 80"},
	{"(((((a|b?){9}){9}){9}){9}){9}c", "", "nil"},
	{"(((((c?){9}){9}){9}){9}){9}", "", "0 0, 0 0, 0 0, 0 0, 0 0, 0 0"},
	{"(((((^){9}){9}){9}){9}){9}a", "", "0 1, 0 0, 0 0, 0 0, 0 0, 0 0"},
	{"(a|aa)*$", "", "0 80, 78 80"},
	{"(a|aa|aaa)*(aa|a)*b", "", "nil"},
	{"a?a?a?a?a?a?a?a?a?a?aaaaaaaaaaaaaaaaaaaa", "", "0 30"},
	{"a*a*a*a*a*a*a*a*a*a*a*a*a*a*a*a*a*a*a*b", "", "nil"},
	{"(.*)(.*)(.*)(.*)(.*)(.*)(.*)(.*)(.*)", "", "0 80, 0 80, 80 80, 80 80, 80 80, 80 80, 80 80, 80 80, 80 80, 80 80"},
	{"((a*)*|(a*)*)*((a*)*|(a*)*)*", "", "0 80, 0 80, 0 80, -1 -1, -1 -1, -1 -1, -1 -1"},
}

func TestHeavyMatchesEnd(t *testing.T) {
	for _, c := range heavy {
		wantMatch(t, c.pattern, strings.Repeat("a", 80), c.want)
	}
}

func TestMatchIsTheCallers(t *testing.T) {
	cases := []matchCase{{"(a)(b)*", "cab", "1 3, 1 2, 2 3"}, {"(a)|(b)", "b", "0 1, -1 -1, 0 1"}, {"a", "a", "0 1"}}
	for range 3 {
		var lists [][]api.Span
		for _, c := range cases {
			spans, _ := linework.Match(c.pattern, c.text)
			lists = append(lists, spans)
		}
		for i, spans := range lists {
			if told(spans) != cases[i].want {
				t.Errorf("P2: Match(%q) = %s, once another answer was written into", cases[i].pattern, told(spans))
			}
			room := spans[:cap(spans)]
			for k := range room {
				room[k] = api.Span{From: 7, To: 7}
			}
		}
	}
}

func TestMatchHangsOnItsArgumentsAlone(t *testing.T) {
	all := slices.Concat(heavy, []matchCase{{"a(b|(c))d|(e)", "acd", ""}, {"(a*)+", "b", ""}, {"(a", "a", ""}, {"a", "b", ""}})
	var wait sync.WaitGroup
	ask := func(c matchCase) string {
		spans, e := linework.Match(strings.Clone(c.pattern), strings.Clone(c.text))
		return told(spans) + " beside " + strconv.Itoa(int(e))
	}
	var first []string
	for _, c := range all {
		first = append(first, ask(c))
	}
	for range 4 {
		wait.Go(func() {
			for i := len(all) - 1; i >= 0; i-- {
				if got := ask(all[i]); got != first[i] {
					t.Errorf("P2: Match(%q) = %s, then %s", all[i].pattern, first[i], got)
				}
			}
		})
	}
	wait.Wait()
}
