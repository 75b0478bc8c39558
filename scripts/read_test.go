package scripts

import (
	"fmt"
	"strconv"
	"strings"
	"testing"

	"linework/api"
)

// show writes commands as text, each with its goal, if its kind has one.
func show(commands []Command) string {
	var out []string
	for _, c := range commands {
		s := address(c) + string(letters[c.Kind])
		switch c.Kind {
		case Block, Branch, Test:
			s += strconv.Itoa(c.Goal)
		case After, Before, Instead:
			s += strconv.Quote(c.Text)
		case Substitute:
			s += put(c.Put)
		case Transliterate:
			s += fmt.Sprintf("%q%q", c.From, c.To)
		}
		out = append(out, s)
	}
	return strings.Join(out, " ")
}

func address(c Command) string {
	s := where(c.First)
	if c.Second.Sort != Always {
		s += "," + where(c.Second)
	}
	if c.Not {
		s += "!"
	}
	return s
}

func where(w Where) string {
	switch w.Sort {
	case Line:
		return strconv.Itoa(w.Number)
	case Last:
		return "$"
	case Matching:
		return fmt.Sprintf("/%d/", len(w.Pattern.Nodes))
	}
	return ""
}

func put(p Put) string {
	s := fmt.Sprintf("/%d/", len(p.Pattern.Nodes))
	for _, piece := range p.Template {
		if piece.Group == Plain {
			s += strconv.Quote(string([]byte{piece.Byte}))
		} else {
			s += strconv.Itoa(piece.Group)
		}
	}
	s += "/" + strconv.Itoa(p.Number)
	if p.All {
		s += "g"
	}
	if p.Print {
		s += "p"
	}
	return s
}

func TestRead(t *testing.T) {
	for _, c := range []struct{ script, want string }{
		{"", ""},
		{" ;\n", ""},
		{"d;D;n;N;p;P;g;G;h;H;x;=;q", "d D n N p P g G h H x = q"},
		{"1p;$!p;/ab/ ! p;0012,$p;/a/,/bc/p;9999,10!p;!p", "1p $!p /3/!p 12,$p /1/,/3/p 9999,10!p !p"},
		{"a x;y}\ni \nc  z ", `a"x;y}" i"" c" z "`},
		{"{}", "{1"},
		{"1{p;2{d}\n};q", "1{4 p 2{4 d q"},
		{"{{}};{p}", "{2 {2 {4 p"},
		{"b;t;p", "b3 t3 p"},
		{":a;ba;:b;tb;bc;:c", "b0 t1 b3"},
		{"bz;{p;:z;d};tz", "b3 {4 p d t3"},
		{":a;:b;p;ba;tb", "p b0 t0"},
		{"1,2!ba;p;:a", "1,2!b2 p"},
		{"s/a/b/", `s/1/"b"/1`},
		{"s/a//g", "s/1//1g"},
		{`s/(a)(b)/\2&\1x\n\\\/\&/p3g`, `s/5/201"x""\n""\\""/""&"/3gp`},
		{`s/(a)/\\1/9`, `s/2/"\\""1"/9`},
		{"y///", `y""""`},
		{`y/a\n\\\//\/\\\nb/`, `y"a\n\\/""/\\\nb"`},
	} {
		got, errno, at := Read(c.script)
		if errno != api.OK || at != 0 || show(got) != c.want {
			t.Errorf("Read(%q) = %s, %d, %d, want %s", c.script, show(got), errno, at, c.want)
		}
	}
}

func TestPatternsAreRead(t *testing.T) {
	commands, _, _ := Read(`/a\/b/,/[\/]/s/(\/)/x/`)
	c := commands[0]
	if set := c.Second.Pattern.Nodes[0].Set; !set.Has('/') || set.Has('\\') {
		t.Error("the set holds something else than the /")
	}
	if first := c.First.Pattern; len(first.Nodes) != 4 || !first.Nodes[1].Set.Has('/') || first.Nodes[1].Set.Has('\\') {
		t.Error("the escaped / does not stand for itself")
	}
	if c.Put.Pattern.Groups != 1 {
		t.Error("the bracket is not counted")
	}
}

func TestNoCommandsBesideAnError(t *testing.T) {
	long := strings.Repeat("a", 41)
	for _, c := range []struct {
		script string
		errno  api.Errno
		at     int
	}{
		{"p;z", api.ErrScript, 2}, {"p;/" + long + "/p", api.ErrPattern, 3}, {"p;ba", api.ErrLabel, 3}, {"p;:a;:a", api.ErrLabel, 6}, {strings.Repeat("p;", 201), api.ErrLong, 0},
	} {
		if got, errno, at := Read(c.script); got != nil || errno != c.errno || at != c.at {
			t.Errorf("Read(%q) = %s, %d, %d", c.script, show(got), errno, at)
		}
	}
}

func TestKinds(t *testing.T) {
	for script, want := range map[string]Kind{
		"{}": Block, "d": Drop, "D": DropLine, "n": Next, "N": Join, "p": Print, "P": PrintLine, "g": Get, "G": GetMore, "h": Hold, "H": HoldMore, "x": Exchange,
		"=": Count, "q": Quit, "a x": After, "i x": Before, "c x": Instead, "b": Branch, "t": Test, "s/a/b/": Substitute, "y/a/b/": Transliterate,
	} {
		if got, _, _ := Read(script); len(got) != 1 || got[0].Kind != want {
			t.Errorf("Read(%q) = %v, want the kind %d", script, got, want)
		}
	}
}
