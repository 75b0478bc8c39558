package linework_test

import (
	"fmt"
	"math"
	"strings"
	"sync"
	"testing"

	"linework/api"
	"linework/linework"
)

func wantOpen(t *testing.T, script string, l api.Limits, want api.Errno) {
	t.Helper()
	if e, errno := linework.Open(script, l); errno != want || (e == nil) != (want != api.OK) {
		t.Errorf("P7: Open(%.50q, %v) = %v, %d, want %d", script, l, e, errno, want)
	}
}

func TestOpenTellsTheErrorOfCheck(t *testing.T) {
	more := strings.Repeat("a", 41)
	for _, c := range []struct {
		script string
		want   api.Errno
	}{
		{strings.Repeat(";", 400), api.OK}, {strings.Repeat(";", 401), api.ErrLong}, {strings.Repeat("z", 1<<20), api.ErrLong}, {"z", api.ErrScript}, {"{p", api.ErrScript}, {`s/a/\1/`, api.ErrScript}, {"/" + more + "/p", api.ErrPattern}, {"s/" + more + "/b/", api.ErrPattern}, {"/" + more[1:] + "/p", api.OK}, {"ba", api.ErrLabel}, {":a;:a", api.ErrLabel}, {"ba;/" + more + "/p", api.ErrPattern}, {"ba;/" + more + "/p;z", api.ErrScript},
	} {
		wantOpen(t, c.script, wide, c.want)
		if errno, _ := linework.Check(c.script); errno != c.want {
			t.Errorf("P6: Check(%.50q) = %d, want %d", c.script, errno, c.want)
		}
		// The script is judged ahead of the limits.
		if c.want == api.OK {
			c.want = api.ErrLimits
		}
		wantOpen(t, c.script, api.Limits{}, c.want)
	}
}

func TestLimitsThatMayBe(t *testing.T) {
	for _, c := range []struct{ n, most int }{{1, 80}, {2, 80}, {79, 80}, {80, 80}, {81, 80}, {0, 80}, {-1, 80}, {math.MaxInt, 80}, {math.MinInt, 80}, {-80, 80}, {1000, 1000}, {999, 1000}, {1001, 1000}, {0, 1000}} {
		want := api.OK
		if c.n < 1 || c.n > c.most {
			want = api.ErrLimits
		}
		for _, isQuiet := range []bool{false, true} {
			if c.most == 80 {
				wantOpen(t, "p", api.Limits{Line: c.n, Space: 1, Fuel: 1, Quiet: isQuiet}, want)
				wantOpen(t, "p", api.Limits{Line: 80, Space: c.n, Fuel: 1000, Quiet: isQuiet}, want)
			} else {
				wantOpen(t, "p", api.Limits{Line: 80, Space: 80, Fuel: c.n, Quiet: isQuiet}, want)
			}
		}
	}
}

// early is a script, pieces of an input, and how many bytes are ready behind
// each of them, if none are taken, and the state at last.
type early struct {
	script string
	l      api.Limits
	pieces []string
	want   string
}

func wantEarly(t *testing.T, cases []early) {
	t.Helper()
	for _, c := range cases {
		e := opened(t, c.script, c.l)
		var got []string
		for _, piece := range c.pieces {
			e.Feed(piece)
			got = append(got, fmt.Sprint(e.Ready()))
		}
		told := strings.Join(got, " ") + " " + fmt.Sprint(e.State())
		if told != c.want {
			t.Errorf("P8: %q, %v, fed with %q has ready, and then stands at: %s, want %s", c.script, c.l, c.pieces, told, c.want)
		}
	}
}

func TestWhatCanBeDoneIsDone(t *testing.T) {
	lines := []string{"a", "\n", "b", "\n", "\n", "c"}
	wantEarly(t, []early{
		{"", wide, lines, "0 2 2 4 5 5 0"}, {"p", wide, lines, "0 4 4 8 10 10 0"}, {"d", wide, lines, "0 0 0 0 0 0 0"}, {"2q", wide, lines, "0 2 2 4 4 4 2"}, {"a x\ni y", wide, lines, "0 6 6 12 17 17 0"}, {"", wide, []string{"", "a\nb", "", "\nc\nd"}, "0 2 2 6 0"},
		// Who wants to know whether this is the last line waits for a byte behind it.
		{"$d", wide, lines, "0 0 2 2 4 5 0"}, {"$!d", wide, lines, "0 0 0 0 0 0 0"}, {"p;$p", wide, lines, "0 2 4 6 9 10 0"}, {"2,$!p", wide, lines, "0 4 4 4 6 7 0"}, {"$!p", wide, lines, "0 0 4 4 8 10 0"}, {"$,2p", wide, lines, "0 0 2 2 4 5 0"}, {"{$p}", wide, lines, "0 0 2 2 4 5 0"}, {"1{$p}", wide, lines, "0 0 2 4 5 5 0"}, {"$!{p}", wide, []string{"a\n", "\n"}, "0 4 0"},
		{"p;n;p", wide, lines, "0 2 4 8 9 10 0"}, {"p;N;p", wide, lines, "0 2 2 10 11 11 0"}, {"n", wide, lines, "0 0 2 4 4 5 0"}, {"N", wide, lines, "0 0 0 4 4 4 0"}, {"a x\nn", wide, []string{"a\n", "b", "\n"}, "0 4 6 0"}, {"a x\nn", quiet(wide), []string{"a\n", "b", "\n"}, "0 2 2 0"}, {"n;n", wide, []string{"a\n", "b\n", "c\n"}, "0 2 6 0"},
		// But not the second half of a range that is not open and does not open, nor the end of a cycle.
		{"3,$p", wide, []string{"a\n", "b\n", "c\n", "d\n"}, "2 4 4 8 0"}, {"/b/,$p", wide, []string{"a\n", "b\n", "c\n"}, "2 2 6 0"}, {"1,$p", wide, []string{"a\n", "b\n"}, "0 4 0"}, {"1,2p;2,$!p", wide, []string{"a\n", "b\n"}, "6 8 0"}, {"$,$p", wide, []string{"a\n", "b\n"}, "0 2 0"}, {"1,/a/p", wide, []string{"a\n", "a\n"}, "4 8 0"}, {"1,9p", wide, []string{"a\n", "b\n"}, "4 8 0"},
		// Nor a command that is not looked at, or cannot be.
		{"b;$p", wide, []string{"a\n", "b\n"}, "2 4 0"}, {"2{$p}", wide, []string{"a\n", "b\n", "c\n"}, "2 2 6 0"}, {"d;$p", wide, []string{"a\n"}, "0 0"}, {"q;$p", wide, []string{"a\n"}, "2 2"}, {"p;$p", api.Limits{Line: 80, Space: 80, Fuel: 1}, []string{"a\n"}, "2 5"}, {"p;n", api.Limits{Line: 80, Space: 80, Fuel: 1}, []string{"a\n"}, "2 5"},
		// Nor one that is not selected.
		{"2n;p", wide, []string{"a\n", "b\n", "c"}, "4 4 6 0"}, {"2N;p", wide, []string{"a\n", "b\n"}, "4 4 0"}, {"!n", wide, []string{"a\n", "b\n"}, "2 4 0"},
	})
}

func TestWhenItIsKnownThatALimitIsPassed(t *testing.T) {
	three := api.Limits{Line: 3, Space: 3, Fuel: 3}
	four := api.Limits{Line: 4, Space: 3, Fuel: 3}
	wantEarly(t, []early{
		{"", three, []string{"abc"}, "0 0"}, {"", three, []string{"abc", "d"}, "0 0 3"}, {"", three, []string{"abcd"}, "0 3"}, {"", three, []string{"abc", "\n"}, "0 4 0"},
		{"", four, []string{"abcd"}, "0 0"}, {"", four, []string{"abcd", "\n"}, "0 0 4"}, {"", four, []string{"abcd", "e"}, "0 0 3"},
		{"n", three, []string{"a\n", "abc"}, "0 2 0"}, {"n", three, []string{"a\n", "abc", "d"}, "0 2 2 3"}, {"N", three, []string{"a\n", "abc"}, "0 0 0"}, {"N", three, []string{"a\n", "abc", "d"}, "0 0 0 3"}, {"N", three, []string{"a\n", "abc", "\n"}, "0 0 0 4"}, {"n", four, []string{"a\n", "abcd", "\n"}, "0 2 2 4"},
		{":a;ba", three, []string{"a"}, "0 0"}, {":a;ba", three, []string{"a", "\n"}, "0 0 5"}, {"h;G", three, []string{"ab\n"}, "0 4"},
	})
}

func TestEndSaysAll(t *testing.T) {
	for _, c := range []struct {
		script, in   string
		ready, after int
		state        int
	}{
		{"", "", 0, 0, api.Ended}, {"", "a\n", 2, 2, api.Ended}, {"", "a", 0, 2, api.Ended}, {"$p", "a\n", 0, 4, api.Ended}, {"$p", "a", 0, 4, api.Ended}, {"n;p", "a\n", 0, 2, api.Ended}, {"n;p", "a\nb", 2, 6, api.Ended}, {"N;p", "a\nb", 0, 8, api.Ended}, {"$!d;q", "a\n", 0, 2, api.Quit}, {"$G", "a\n", 0, 3, api.Ended}, {"$s/a/b/;n", "a\n", 0, 2, api.Ended}, {"N;N;N", "a\nb\nc\n", 0, 6, api.Ended},
	} {
		e := opened(t, c.script, wide)
		e.Feed(c.in)
		if e.Ready() != c.ready || e.State() != api.Running {
			t.Errorf("P8: %q fed with %q: %d ready, state %d", c.script, c.in, e.Ready(), e.State())
		}
		e.End()
		if e.Ready() != c.after || e.State() != c.state {
			t.Errorf("P8: %q of %q: %d ready, state %d", c.script, c.in, e.Ready(), e.State())
		}
	}
	e := opened(t, "$G", api.Limits{Line: 1, Space: 1, Fuel: 1})
	e.Feed("a\n")
	e.End()
	if e.State() != api.Overflow || e.Ready() != 0 {
		t.Errorf("P8: at the end a space overflows: state %d, %d ready", e.State(), e.Ready())
	}
}

// TestNothingComesBehindTheEnd: neither behind End nor when the editor has stopped.
func TestNothingComesBehindTheEnd(t *testing.T) {
	small := api.Limits{Line: 2, Space: 2, Fuel: 2}
	for _, c := range []struct {
		script, in string
		end        bool
		state      int
	}{{"p", "a", true, api.Ended}, {"p", "a\n", true, api.Ended}, {"$p", "a\n", true, api.Ended}, {"p", "", true, api.Ended}, {"q", "a\n", false, api.Quit}, {"q", "a\nb", false, api.Quit}, {"p", "a\nbcd", false, api.LongLine}, {"p;G", "a\nab\n", false, api.Overflow}, {"p;p;p", "a\nb", false, api.Spent}} {
		e := opened(t, c.script, small)
		e.Feed(c.in)
		if c.end {
			e.End()
		}
		ready := e.Ready()
		for range 3 {
			e.Feed("x\ny")
			e.End()
			e.Feed("\n")
			e.End()
		}
		if e.Ready() != ready || e.State() != c.state || len(e.Take(1000)) != ready || e.State() != c.state {
			t.Errorf("P8: %q of %q, and more: %d ready, then %d, state %d", c.script, c.in, ready, e.Ready(), e.State())
		}
	}
}

func TestTake(t *testing.T) {
	e := opened(t, "p", wide)
	take := func(n int, want string, left int) {
		t.Helper()
		if got := e.Take(n); got != want || e.Ready() != left {
			t.Errorf("P8: Take(%d) = %q, %d left, want %q, %d", n, got, e.Ready(), want, left)
		}
	}
	for _, n := range []int{0, 1, -1, math.MaxInt, math.MinInt} {
		take(n, "", 0)
	}
	e.Feed("abc\n")
	take(-1, "", 8)
	take(math.MinInt, "", 8)
	take(0, "", 8)
	take(3, "abc", 5)
	e.Feed("d\n")
	take(2, "\na", 7)
	take(7, "bc\nd\nd\n", 0)
	e.Feed("e")
	take(1, "", 0)
	e.Feed("\n")
	take(math.MaxInt, "e\ne\n", 0)
	e.Feed("f\ng\n")
	e.End()
	take(7, "f\nf\ng\ng", 1)
	take(2, "\n", 0)
	take(2, "", 0)
}

// TestTakeMuch: one byte at a time of very many, while more is put out.
func TestTakeMuch(t *testing.T) {
	line := strings.Repeat("0123456789", 8)
	e := opened(t, "p", wide)
	want := strings.Repeat(line+"\n"+line+"\n", 4000)
	e.Feed(strings.Repeat(line+"\n", 3000))
	var out strings.Builder
	for i := 0; e.Ready() > 0; i++ {
		if i < 1000 {
			e.Feed(line + "\n")
		}
		out.WriteString(e.Take(1 + i%2))
	}
	if out.String() != want {
		t.Errorf("P8: %d bytes were taken, not those that were put out, which are %d", out.Len(), len(want))
	}
}

// TestCutsAndTakes cuts inputs in all ways, and takes in several.
func TestCutsAndTakes(t *testing.T) {
	small := api.Limits{Line: 3, Space: 5, Fuel: 6}
	for _, in := range []string{"a\nb\n\nab\nc", "\n\nabc\nb\n", "ab\nabcd\na", "abc\na\nb\n"} {
		for _, script := range []string{"", "$!d", "N;P;D", "1!G;h;$!d", "n;p", "$=;n;d", "2,$s/b/x/gp", "/b/,/a/d;a x", "$!N;s/\\n/+/;P", "i x\n2q", ":a;s/a/b/;ta;$!{N;ba}", "H;x;$p", "/b/{n;c x\n}"} {
			for _, l := range []api.Limits{wide, small, quiet(small)} {
				whole := opened(t, script, l)
				whole.Feed(in)
				whole.End()
				want, state := whole.Take(1000), whole.State()
				for cuts := range 1 << (len(in) - 1) {
					e, out, from := opened(t, script, l), "", 0
					for to := 1; to <= len(in); to++ {
						if to == len(in) || cuts>>(to-1)&1 == 1 {
							e.Feed(in[from:to])
							from = to
							out += e.Take(cuts % 4)
						}
					}
					e.End()
					out += e.Take(1000)
					if out != want || e.State() != state {
						t.Fatalf("P9: %q, %v, of %q, cut by %b, makes %q, state %d, want %q, %d", script, l, in, cuts, out, e.State(), want, state)
					}
				}
			}
		}
	}
}

func TestPiecesOfAnyLength(t *testing.T) {
	const lines = 200000
	in := strings.Repeat("ab\n", lines)
	for _, c := range []struct {
		script string
		ready  int
		state  int
	}{{"", 3 * lines, api.Ended}, {"$!d", 3, api.Ended}, {"N;P;D", 3 * lines, api.Ended}, {"2q", 6, api.Quit}, {"y/a/b/", 3 * lines, api.Ended}} {
		e := opened(t, c.script, wide)
		e.Feed(in)
		e.End()
		if e.Ready() != c.ready || e.State() != c.state {
			t.Errorf("P1, P8: %q of %d bytes: %d ready, state %d", c.script, len(in), e.Ready(), e.State())
		}
	}
	e := opened(t, "", wide)
	e.Feed(strings.Repeat("\xff", 1<<22))
	if e.State() != api.LongLine || e.Ready() != 0 {
		t.Errorf("P1, P8: a line of very many bytes: state %d", e.State())
	}
}

// TestHeavyEditsEnd asks for patterns that nest repetitions as often as may be.
func TestHeavyEditsEnd(t *testing.T) {
	for _, c := range heavy {
		e := opened(t, ":a;/"+c.pattern+"/s/"+c.pattern+"/&/;ba", api.Limits{Line: 80, Space: 80, Fuel: 100})
		e.Feed(strings.Repeat("a", 80) + "\n")
		if e.State() != api.Spent {
			t.Errorf("P1: %q: state %d", c.pattern, e.State())
		}
	}
	all := opened(t, "s/a?/"+strings.Repeat("&", 380)+"/g", wide)
	all.Feed(strings.Repeat("a", 80) + "\n")
	if all.State() != api.Overflow {
		t.Errorf("P1: a text of very many bytes to be put in place: state %d", all.State())
	}
}

func TestEditorsAreApart(t *testing.T) {
	scripts := []string{"1p", "2,3d", "/a/,/b/s/./x/", "H;$!d;x", "a x\nn;N", "s/a/b/;t;d", "=;2q"}
	const in = "a\nb\nca\nb\na\n"
	alone := func(script string) (string, int) {
		e := opened(t, script, wide)
		e.Feed(in)
		e.End()
		return e.Take(1000), e.State()
	}
	var editors []*linework.Editor
	for range 2 {
		for _, s := range scripts {
			editors = append(editors, opened(t, strings.Clone(s), wide))
		}
	}
	for i := range in {
		for k, e := range editors {
			if k < len(scripts) || i%2 == 0 {
				e.Feed(in[i : i+1])
			} else {
				e.Feed("")
			}
			if k >= len(scripts) && i%2 == 0 && i+1 < len(in) {
				e.Feed(in[i+1 : i+2])
			}
		}
	}
	for k, e := range editors {
		e.End()
		want, state := alone(scripts[k%len(scripts)])
		if got := e.Take(1000); got != want || e.State() != state {
			t.Errorf("P2: %q beside others makes %q, state %d, want %q, %d", scripts[k%len(scripts)], got, e.State(), want, state)
		}
	}
	var wait sync.WaitGroup
	for _, s := range scripts {
		want, state := alone(s)
		for range 4 {
			wait.Go(func() {
				if got, at := alone(s); got != want || at != state {
					t.Errorf("P2: %q at the same time as others makes %q, state %d, want %q, %d", s, got, at, want, state)
				}
			})
		}
	}
	wait.Wait()
}

// TestAnyScriptOfAnyBytes asks only that the calls end, and that the limits hold.
func TestAnyScriptOfAnyBytes(t *testing.T) {
	for b := range 256 {
		one := string([]byte{byte(b)})
		for _, script := range []string{one, "a " + one, "/" + one + "/p", "s/./" + one + "/", "y/" + one + "/a/", "s/" + one + "/a/g;p"} {
			e, errno := linework.Open(script, wide)
			if check, _ := linework.Check(script); check != errno || (e == nil) != (errno != api.OK) {
				t.Errorf("P7: Open(%q) = %v, %d", script, e, errno)
			}
			if e == nil {
				continue
			}
			e.Feed(one + one + "\n" + one)
			e.End()
			if e.State() == api.Running {
				t.Errorf("P8: %q of %q has not stopped", script, one)
			}
		}
	}
}
