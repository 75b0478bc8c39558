package linework

import (
	"strings"
	"testing"

	"linework/api"
)

func opened(t *testing.T, script string) *Editor {
	t.Helper()
	e, errno := Open(script, api.Limits{Line: 80, Space: 80, Fuel: 1000})
	if errno != api.OK {
		t.Fatalf("Open(%q): %d", script, errno)
	}
	return e
}

// TestNoMoreThanALineIsKept: of an input that is much longer.
func TestNoMoreThanALineIsKept(t *testing.T) {
	for _, script := range []string{"d", "$!d", "N;D", "n;d", "$!{N;D}"} {
		e := opened(t, script)
		e.Feed(strings.Repeat("abc\n", 1<<16) + "ab")
		if len(e.next) > 80 || cap(e.next) > 200 || cap(e.out) > 1<<20 {
			t.Errorf("%q keeps %d bytes of the input, with room for %d", script, len(e.next), cap(e.next))
		}
	}
	e := opened(t, "p")
	e.Feed(strings.Repeat("a", 1<<16))
	if len(e.next) > 81 {
		t.Errorf("%d bytes of a line that is too long are kept", len(e.next))
	}
}

// TestWhatWasTakenIsLetGo: at the latest when it is as much as what was not.
func TestWhatWasTakenIsLetGo(t *testing.T) {
	e := opened(t, "p")
	e.Feed(strings.Repeat("abc\n", 1<<14))
	for _, n := range []int{1, 1000, 100, 1 << 16, 5, 1 << 14, 1 << 20} {
		e.Take(n)
		if len(e.out) > 2*e.Ready() {
			t.Errorf("%d bytes are kept, %d are ready", len(e.out), e.Ready())
		}
	}
	if cap(e.out) > 100 {
		t.Errorf("room for %d bytes is kept, none are ready", cap(e.out))
	}
}

func TestSpaceStaysAsItIsIfItCannotHold(t *testing.T) {
	s := space{text: "ab", most: 4}
	if s.become("abcde") || s.grow("cd") || s.text != "ab" {
		t.Errorf("it holds %q", s.text)
	}
	if !s.grow("c") || s.text != "ab\nc" || s.grow("") || !s.become("abcd") || s.text != "abcd" {
		t.Errorf("it holds %q", s.text)
	}
}

func TestDropLine(t *testing.T) {
	for _, c := range []struct {
		text, want string
		ok         bool
	}{{"", "", false}, {"ab", "ab", false}, {"a\nb", "b", true}, {"a\n", "", true}, {"\n", "", true}, {"a\nb\nc", "b\nc", true}} {
		p := patternSpace{space{text: c.text}}
		if ok := p.dropLine(); ok != c.ok || p.text != c.want {
			t.Errorf("of %q is left %q, %v", c.text, p.text, ok)
		}
	}
}
