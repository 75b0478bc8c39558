package patterns

import (
	"strconv"
	"strings"
	"testing"
)

// show writes a tree as text: sets by their bytes, brackets by their numbers.
func show(t Tree, at int) string {
	n := t.Nodes[at]
	var kids []string
	for _, k := range n.Kids {
		kids = append(kids, show(t, k))
	}
	switch n.Kind {
	case Begin:
		return "begin"
	case End:
		return "end"
	case One:
		return strconv.Quote(held(n.Set))
	case Group:
		return strconv.Itoa(n.Number) + "(" + kids[0] + ")"
	case Repeat:
		return kids[0] + "{" + strconv.Itoa(n.Least) + "," + strconv.Itoa(n.Most) + "}"
	case Way:
		return "way(" + strings.Join(kids, " ") + ")"
	case Choice:
		return "choice(" + strings.Join(kids, " ") + ")"
	}
	return "?"
}

func held(s Set) string {
	var out []byte
	for b := range 256 {
		if s.Has(byte(b)) {
			out = append(out, byte(b))
		}
	}
	return string(out)
}

func allBut(left string) string {
	var out []byte
	for b := range 256 {
		if strings.IndexByte(left, byte(b)) < 0 {
			out = append(out, byte(b))
		}
	}
	return string(out)
}

func TestTree(t *testing.T) {
	for _, c := range []struct {
		text   string
		groups int
		want   string
	}{
		{"a", 0, `"a"`},
		{"ab", 0, `way("a" "b")`},
		{"a|bc|d", 0, `choice("a" way("b" "c") "d")`},
		{"ab*", 0, `way("a" "b"{0,-1})`},
		{"a+b?c{2}d{1,3}", 0, `way("a"{1,-1} "b"{0,1} "c"{2,2} "d"{1,3})`},
		{"a{0,9}", 0, `"a"{0,9}`},
		{"^*$", 0, `way(begin{0,-1} end)`},
		{"((a)|b)(c)", 3, `way(1(choice(2("a") "b")) 3("c"))`},
		{"(a|b)*", 1, `1(choice("a" "b")){0,-1}`},
		{`\n\.\-n`, 0, `way("\n" "." "-" "n")`},
		{"]}-/&,0", 0, `way("]" "}" "-" "/" "&" "," "0")`},
		{".", 0, strconv.Quote(allBut(""))},
		{"[ca-b]", 0, `"abc"`},
		{"[^^]", 0, strconv.Quote(allBut("^"))},
		{"[a^]", 0, `"^a"`},
		{"[^a-c\\n]", 0, strconv.Quote(allBut("abc\n"))},
		{"[.*(|]", 0, `"(*.|"`},
		{`[\[-\]]`, 0, `"[\\]"`},
		{"[\x00-\xff]", 0, strconv.Quote(allBut(""))},
		{"[^\x00-\xff]", 0, `""`},
		{"[?-@\xff]", 0, strconv.Quote("?@\xff")},
	} {
		tree, at, ok := Parse(c.text)
		if !ok || at != 0 {
			t.Errorf("Parse(%q) = %d, %v", c.text, at, ok)
			continue
		}
		if got := show(tree, tree.Root); got != c.want || tree.Groups != c.groups {
			t.Errorf("Parse(%q): %s with %d groups, want %s with %d", c.text, got, tree.Groups, c.want, c.groups)
		}
	}
}

func TestKidsStandAheadOfTheirParent(t *testing.T) {
	tree, _, ok := Parse("(^(a|b){2}|[c-e]*)+$")
	if !ok {
		t.Fatal("no pattern")
	}
	seen := 0
	for i, n := range tree.Nodes {
		for _, k := range n.Kids {
			seen++
			if k >= i {
				t.Errorf("node %d has the kid %d", i, k)
			}
		}
	}
	if tree.Root != len(tree.Nodes)-1 || seen != len(tree.Nodes)-1 {
		t.Errorf("root %d, %d kids, %d nodes: no tree", tree.Root, seen, len(tree.Nodes))
	}
}

func TestParseKnowsNoLength(t *testing.T) {
	long := strings.Repeat("a", 399)
	if _, at, ok := Parse(long); !ok || at != 0 {
		t.Errorf("%d bytes: %d, %v", len(long), at, ok)
	}
	if _, at, ok := Parse(long + "**"); ok || at != 400 {
		t.Errorf("a fault behind %d bytes: %d, %v", len(long), at, ok)
	}
}

func TestNothingBesideAFault(t *testing.T) {
	for _, s := range []string{"", "ab)", "(a", "a|[b-a]"} {
		if tree, _, ok := Parse(s); ok || tree.Nodes != nil || tree.Root != 0 || tree.Groups != 0 {
			t.Errorf("Parse(%q) = %v, %v", s, tree, ok)
		}
	}
}
