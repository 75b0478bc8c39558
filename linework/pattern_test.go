package linework_test

import (
	"strings"
	"sync"
	"testing"

	"linework/api"
	"linework/linework"
)

type answer struct {
	errno api.Errno
	at    int
}

func ask(s string) answer {
	e, at := linework.Pattern(s)
	return answer{e, at}
}

func wantPattern(t *testing.T, s string) {
	t.Helper()
	if got := ask(s); got != (answer{api.OK, 0}) {
		t.Errorf("P3: Pattern(%q) = %v, want OK, 0", s, got)
	}
}

func wantPlace(t *testing.T, s string, at int) {
	t.Helper()
	if got := ask(s); got != (answer{api.ErrPattern, at}) {
		t.Errorf("P3: Pattern(%q) = %v, want ErrPattern, %d", s, got, at)
	}
}

func wantLong(t *testing.T, s string) {
	t.Helper()
	if got := ask(s); got != (answer{api.ErrLong, 0}) {
		t.Errorf("P3: Pattern of %d bytes = %v, want ErrLong, 0", len(s), got)
	}
}

func TestPatternsThatAre(t *testing.T) {
	for _, s := range []string{
		"a", "abc", "a|b", "ab|cd|e", "a*", "a+", "a?", "a*b+c?", ".", ".*", "^a$", "^", "$", "^*", "$+", "a^b$c",
		"(a)", "(a|b)", "((a)(b|c)*)+", "(^)", "(a){2}", "]", "}", "a]}", ",", "-", "/", "&", "0", " ",
		"[a]", "[ab]", "[a-c]", "[a-ce-g]", "[^a]", "[^a-c]", "[a]*", "[a]{2}", "[[]", "[(]", "[$^]",
	} {
		wantPattern(t, s)
	}
}

func TestPlaceOfTheFirstWrongByte(t *testing.T) {
	for _, c := range []struct {
		s  string
		at int
	}{
		{"*", 0}, {"+", 0}, {"?", 0}, {"{", 0}, {"|", 0}, {")", 0}, {"\n", 0},
		{"a**", 2}, {"a+?", 2}, {"a{1}{1}", 4}, {"a*{1}", 2}, {"a|*", 2}, {"a||", 2}, {"(*", 1}, {"()", 1}, {"(|", 1},
		{"a)", 1}, {"(a))", 3}, {"(a|)", 3}, {"ab\nc", 2}, {"(a\n)", 2}, {"(a**)", 3}, {"a*)*", 2}, {"^**", 2},
	} {
		wantPlace(t, c.s, c.at)
		// What stands behind the first wrong byte does not matter.
		for _, more := range []string{"a", ")", "*", "]", "\n"} {
			wantPlace(t, c.s+more, c.at)
		}
	}
}

func TestEndsTooEarly(t *testing.T) {
	for _, s := range []string{
		"", "a|", "(", "(a", "(a|", "((a)", "\\", "a\\", "[", "[^", "[a", "[^a", "[a-", "[a-b", "[\\", "[\\n", "[a-\\", "[a^",
		"a{", "a{1", "a{1,", "a{1,2", "a{9,", "(((((", "a|(b",
	} {
		wantPlace(t, s, len(s))
	}
}

func TestRepetitions(t *testing.T) {
	for m := range 10 {
		for n := range 10 {
			s := "a{" + string(byte('0'+m)) + "," + string(byte('0'+n)) + "}"
			if m <= n {
				wantPattern(t, s)
			} else {
				wantPlace(t, s, 4)
			}
		}
		wantPattern(t, "a{"+string(byte('0'+m))+"}")
	}
	for _, c := range []struct {
		s  string
		at int
	}{
		{"a{}", 2}, {"a{,}", 2}, {"a{,1}", 2}, {"a{-1}", 2}, {"a{ 1}", 2}, {"a{x}", 2}, {"a{/}", 2}, {"a{:}", 2}, {"a{10}", 3}, {"a{1x", 3}, {"a{1;2}", 3},
		{"a{1,}", 4}, {"a{1,x}", 4}, {"a{1,:}", 4}, {"a{1,22}", 5}, {"a{1,2,3}", 5}, {"a{1,2)", 5}, {"a{1\n", 3},
	} {
		wantPlace(t, c.s, c.at)
	}
}

func TestEscapes(t *testing.T) {
	const escaped = "n\\.^$()[]*+?{}|/&-"
	for b := range 256 {
		s := "\\" + string([]byte{byte(b)})
		if strings.IndexByte(escaped, byte(b)) >= 0 {
			wantPattern(t, s)
			wantPattern(t, s+"*")
			wantPattern(t, "["+s+"]")
			wantPattern(t, "[^"+s+"]")
		} else {
			wantPlace(t, s, 1)
			wantPlace(t, "["+s+"]", 2)
			wantPlace(t, "[a-"+s+"]", 4)
		}
	}
}

func TestBytesThatStandForThemselves(t *testing.T) {
	const special = "\\.^$()[*+?{|"
	for b := range 256 {
		s := string([]byte{byte(b)})
		switch {
		case b == '\n' || strings.IndexByte("*+?{|)", byte(b)) >= 0:
			wantPlace(t, s, 0)
		case strings.IndexByte(special, byte(b)) < 0:
			wantPattern(t, s)
			wantPattern(t, s+"+")
		}
	}
}

func TestBytesInASet(t *testing.T) {
	for b := range 256 {
		s := "[a" + string([]byte{byte(b)})
		switch b {
		case '\n':
			wantPlace(t, s+"]", 2)
		case '\\', '-':
			wantPlace(t, s, 3)
		case ']':
			wantPattern(t, s)
			wantPattern(t, s+"]")
		default:
			wantPattern(t, s+"]")
		}
	}
}

// ends gives each end that a range can have, and the byte that it stands for.
func ends() map[string]byte {
	out := map[string]byte{"\\n": '\n'}
	for b := range 256 {
		s := string([]byte{byte(b)})
		if strings.IndexByte("\n\\]-", byte(b)) < 0 {
			out[s] = byte(b)
		}
		if strings.IndexByte("\\.^$()[]*+?{}|/&-", byte(b)) >= 0 {
			out["\\"+s] = byte(b)
		}
	}
	return out
}

func TestRanges(t *testing.T) {
	all := ends()
	for low, from := range all {
		for high, to := range all {
			s := "[x" + low + "-" + high + "]"
			if from <= to {
				wantPattern(t, s)
				continue
			}
			at := len("[x" + low + "-" + high[:len(high)-1])
			if len(high) == 2 && from > '}' { // no escape is that high, so the backslash is wrong already
				at--
			}
			wantPlace(t, s, at)
		}
	}
}

func TestSets(t *testing.T) {
	for _, s := range []string{"[^^]", "[^^-a]", "[^^^]", "[a^]", "[x^-a]", "[\\^]", "[\\^-a]", "[^a]]", "[a-a]", "[a-bc-d]", "[\\--\\-]", "[\\]-a]", "[}-\\}]"} {
		wantPattern(t, s)
	}
	for _, c := range []struct {
		s  string
		at int
	}{
		{"[]", 1}, {"[]a]", 1}, {"[^]", 2}, {"[^]a]", 2}, {"[-a]", 1}, {"[^-a]", 2}, {"[a-]", 3}, {"[a-b-c]", 4}, {"[a--]", 3}, {"[\n]", 1}, {"[a-\n]", 3},
		{"[^-", 2}, {"[b-a]", 3}, {"[^b-a]", 4}, {"[a-bd-c]", 6}, {"[b-\\]]", 4}, {"[~-\\", 3}, {"[\x7f-\\}]", 3}, {"[\\}-\\{]", 5}, {"[\xff-\xfe]", 3}, {"[a]-[b]*]*+", 10},
	} {
		wantPlace(t, c.s, c.at)
	}
}

func TestBrackets(t *testing.T) {
	wantPattern(t, "(((((a)))))")
	wantPattern(t, "(((((a)))))(((a)a)a)")
	wantPattern(t, "((((a))))((((a))))(a)")
	wantPattern(t, strings.Repeat("(a)", api.MaxGroups))
	wantPattern(t, "(a)(a)(a)(a)((((a)))a)(a)")
	wantPlace(t, "((((((a))))))", 5)
	wantPlace(t, "a((((b|((", 8)
	wantPlace(t, "(((a))(((((", 10)
	wantPlace(t, "(((((a))))(((((", 14)
	wantPlace(t, strings.Repeat("(a)", api.MaxGroups)+"(a)", 27)
	wantPlace(t, "(((((a)))))((((a(a", 16)
	wantPlace(t, "((((((((((", 5)
	// A bracket behind a backslash or within a set is none.
	wantPattern(t, "(((((\\([(])))))")
	wantPattern(t, strings.Repeat("(a)", api.MaxGroups)+"\\([((]")
}

func TestFortyBytes(t *testing.T) {
	wantPattern(t, strings.Repeat("a", 40))
	wantPattern(t, strings.Repeat("a*", 20))
	wantPlace(t, strings.Repeat("a", 39)+")", 39)
	wantPlace(t, "("+strings.Repeat("a", 39), 40)
	wantLong(t, strings.Repeat("a", 41))
	wantLong(t, "("+strings.Repeat("a", 40))
	wantLong(t, strings.Repeat("\x00", 41))
	wantLong(t, strings.Repeat("\xc3\xa4", 21)) // bytes are counted, not letters
	wantPattern(t, strings.Repeat("\xc3\xa4", 20))
}

func TestErrorNamedFirst(t *testing.T) {
	for _, s := range []string{strings.Repeat("*", 41), "\n" + strings.Repeat("a", 40), strings.Repeat("(", 1<<20), strings.Repeat("[", 1<<20), strings.Repeat("\\", 41)} {
		if got := ask(s); got != (answer{api.ErrLong, 0}) {
			t.Errorf("P1: Pattern of %d bytes = %v, want ErrLong, 0", len(s), got)
		}
	}
}

// odd are texts of every kind of bytes and of great length.
func odd() []string {
	out := []string{"", "\x00", "\xff", "\n", "\\", "$", "/", "{", "}", "s/a/b/", "s/(/b/", "a", strings.Repeat("(", 1<<16), strings.Repeat("{", 1<<16), strings.Repeat("\n", 1<<16)}
	for b := range 256 {
		for _, s := range []string{"", "a", "[", "[a-", "(", "a{", "\\"} {
			out = append(out, s+string([]byte{byte(b)}), s+strings.Repeat(string([]byte{byte(b)}), 40))
		}
	}
	return out
}

func TestEveryCallEnds(t *testing.T) {
	for _, s := range odd() {
		e, at := linework.Pattern(s)
		if e != api.ErrPattern && at != 0 || at < 0 || at > len(s) {
			t.Errorf("P1: Pattern(%q) = %d, %d", s, e, at)
		}
		if spans, e := linework.Match(s, s); e != api.OK && spans != nil {
			t.Errorf("P1: Match(%q) = %v beside %d", s, spans, e)
		}
		if e, at := linework.Check(s); (e == api.OK || e == api.ErrLong) && at != 0 || at < 0 || at > len(s) {
			t.Errorf("P1: Check(%q) = %d, %d", s, e, at)
		}
		for _, n := range []int{-1 << 63, -1, 0, 1, 80, 1<<63 - 1} {
			if ed, e := linework.Open(s, api.Limits{Line: n, Space: n, Fuel: n}); e != api.OK && ed != nil {
				t.Errorf("P1: Open(%q) = an editor beside %d", s, e)
			}
		}
	}
}

func TestAnswerHangsOnTheArgumentsAlone(t *testing.T) {
	all := odd()
	first := make([]answer, len(all))
	for i, s := range all {
		first[i] = ask(s)
	}
	for i := len(all) - 1; i >= 0; i-- {
		// A text in other memory, between calls on other texts.
		if got := ask(strings.Clone(all[i])); got != first[i] {
			t.Errorf("P2: Pattern(%q) = %v, then %v", all[i], first[i], got)
		}
	}
	var wait sync.WaitGroup
	for range 8 {
		wait.Go(func() {
			for i, s := range all {
				if got := ask(s); got != first[i] {
					t.Errorf("P2: Pattern(%q) = %v, among others %v", s, first[i], got)
				}
			}
		})
	}
	wait.Wait()
}
