package linework_test

import (
	"strings"
	"testing"

	"linework/api"
	"linework/linework"
)

// wide are the widest limits.
var wide = api.Limits{Line: 80, Space: 80, Fuel: 1000}

func quiet(l api.Limits) api.Limits {
	l.Quiet = true
	return l
}

func opened(t *testing.T, script string, l api.Limits) *linework.Editor {
	t.Helper()
	e, errno := linework.Open(script, l)
	if e == nil || errno != api.OK {
		t.Fatalf("P7: Open(%q, %v) = %v, %d", script, l, e, errno)
	}
	return e
}

// wantEdit asks what is made of an input, whole, in halves and byte by byte,
// and taken at the end or on the way.
func wantEdit(t *testing.T, script string, l api.Limits, in, want string, state int) {
	t.Helper()
	for _, size := range []int{len(in), (len(in) + 1) / 2, 1} {
		for _, take := range []int{0, 1, 3, 1000} {
			e, out := opened(t, script, l), ""
			for rest := in; rest != ""; {
				n := min(size, len(rest))
				e.Feed(rest[:n])
				rest = rest[n:]
				out += e.Take(take)
			}
			e.End()
			out += e.Take(e.Ready())
			if out != want || e.State() != state {
				t.Errorf("P8, P9: %q, %v, of %q in pieces of %d makes %q, state %d, want %q, %d", script, l, in, size, out, e.State(), want, state)
				return
			}
		}
	}
}

// edit is a script, an input and what it makes of it, with the widest limits.
type edit struct{ script, in, want string }

// wantEdits asks for edits at whose end the input is at its end.
func wantEdits(t *testing.T, edits []edit) {
	t.Helper()
	for _, c := range edits {
		wantEdit(t, c.script, wide, c.in, c.want, api.Ended)
	}
}

func TestEditExamples(t *testing.T) {
	wantEdits(t, []edit{
		{"s/o/0/g", "foo\n", "f00\n"}, {"s/o*/x/g", "foo\nbac\n", "xfx\nxbxaxcx\n"}, {"s/b*/x/2", "abc\n", "axc\n"}, {`s/\(a\)/<&>/`, "(a)\n", "<(a)>\n"},
		{"$!d", "a\nb\nc\n", "c\n"}, {"1!G;h;$!d", "a\nb\nc\n", "c\nb\na\n"}, {"N;P;D", "a\nb\nc\n", "a\nb\nc\n"},
		{":a\ns/^(.{1,5})$/ \\1/;ta", "a\nabcdef\nabcdefg\n\n", "     a\nabcdef\nabcdefg\n\n"},
	})
}

func TestLinesOfTheInput(t *testing.T) {
	wantEdits(t, []edit{
		{"", "", ""}, {"", "\n", "\n"}, {"", "a", "a\n"}, {"", "a\n", "a\n"}, {"", "\n\n\n", "\n\n\n"}, {"", "a\n\nb", "a\n\nb\n"}, {"", "\na", "\na\n"},
		{"=", "\n\n", "1\n\n2\n\n"}, {"=", "a\nb", "1\na\n2\nb\n"}, {"$=", "\n\n", "\n2\n\n"}, {"$=", "a\nb", "a\n2\nb\n"}, {"$=", "a", "1\na\n"}, {"p", "", ""},
		{"p", "\x00\xff\r\n\t;}", "\x00\xff\r\n\x00\xff\r\n\t;}\n\t;}\n"}, {"s/./x/g", "\xc3\xa4\n", "xx\n"},
	})
	wantEdits(t, []edit{{"$=", strings.Repeat("a\n", 10101), strings.Repeat("a\n", 10100) + "10101\na\n"}})
}

func TestAddressesThatSelect(t *testing.T) {
	const five = "1\n2\n3\n4\n5\n"
	wantEdits(t, []edit{
		{"2d", five, "1\n3\n4\n5\n"}, {"0002d", five, "1\n3\n4\n5\n"}, {"6d", five, five}, {"$d", five, "1\n2\n3\n4\n"}, {"/[24]/d", five, "1\n3\n5\n"}, {"/x/d", five, five}, {"/^/d", five, ""}, {"d", five, ""},
		{"2!d", five, "2\n"}, {"$!d", five, "5\n"}, {"/[24]/!d", five, "2\n4\n"}, {"!d", five, five}, {"!p", "a\n", "a\n"}, {"1 ! {$!d}", five, "1\n5\n"},
		{"/a$/d", "ab\nba\n", "ab\n"}, {"/^$/d", "a\n\nb\n\n", "a\nb\n"}, {`/\n/d`, "a\n", "a\n"}, {`N;/^a\nb$/d`, "a\nb\nb\na\n", "b\na\n"}, {`/\//d`, "a/b\nab\n", "ab\n"},
		// The number and the last line are those of the line read last.
		{"N;1p", "a\nb\n", "a\nb\n"}, {"N;2p", "a\nb\n", "a\nb\na\nb\n"}, {"n;2d", "a\nb\nc\n", "a\nc\n"}, {"N;$p", "a\nb\n", "a\nb\na\nb\n"}, {"1{N;$!d}", "a\nb\n", "a\nb\n"},
	})
}

func TestRangesOfLines(t *testing.T) {
	const six = "1\n2\n3\n4\n5\n6\n"
	wantEdits(t, []edit{
		{"2,4d", six, "1\n5\n6\n"}, {"2,2d", six, "1\n3\n4\n5\n6\n"}, {"4,2d", six, "1\n2\n3\n5\n6\n"}, {"2,9d", six, "1\n"}, {"7,9d", six, six}, {"2,$d", six, "1\n"}, {"1,$d", six, ""}, {"2,4!d", six, "2\n3\n4\n"},
		{"/2/,/4/d", six, "1\n5\n6\n"}, {"/2/,/x/d", six, "1\n"}, {"/x/,/2/d", six, six}, {"/2/,4d", six, "1\n5\n6\n"}, {"/4/,2d", six, "1\n2\n3\n5\n6\n"}, {"2,/4/d", six, "1\n5\n6\n"}, {"/5/,$d", six, "1\n2\n3\n4\n"}, {"$,/1/d", six, "1\n2\n3\n4\n5\n"}, {"$,2d", six, "1\n2\n3\n4\n5\n"}, {"$,$d", six, "1\n2\n3\n4\n5\n"},
		// A pattern is not asked where the range opens, a number is; and it may open again.
		{"/a/,/a/d", "a\nb\na\nb\na\n", "b\n"}, {"/a/,/b/d", "ab\nb\nb\n", "b\n"}, {"/a/,/b/d", "a\nb\nc\na\nc\nb\nc\n", "c\nc\n"}, {"/a/,3d", "a\nb\nc\na\nb\na\n", "b\n"}, {"/a/,1d", "a\na\nb\na\n", "b\n"}, {"2,/b/d", "a\nb\na\nb\na\n", "a\na\n"},
		// It is looked at only where the command is.
		{"2{3,4d}", six, six}, {"/[135]/{1,3d}", six, "2\n4\n5\n6\n"}, {"/[14]/{/1/,/2/d}", six, "2\n3\n5\n6\n"}, {"n;2,3d", six, "1\n3\n5\n6\n"}, {"n;1,3d", six, six},
		// An open one selects even where its number has been passed.
		{"/1/,2{n;n;s/$/x/}", six + "7\n", "1\n2\n3x\n4\n5\n6x\n7\n"}, {"/[16]/{1,3d}", six, "2\n3\n4\n5\n"}, {"/[156]/{1,3d}", six, "2\n3\n4\n6\n"},
		// Each command has a range of its own.
		{"/a/,/b/p;/b/,/a/p", "a\nb\nc\na\n", "a\na\nb\nb\nb\nc\nc\na\na\na\n"}, {"1,2p;1,2p", "a\n", "a\na\na\n"},
		// The first half is not asked of an open one, nor the second of one that does not open.
		{"/a/,/c/!d", "a\na\nb\nc\nd\na\n", "a\na\nb\nc\na\n"}, {"2,4{2,3p}", "1\n2\n3\n4\n", "1\n2\n2\n3\n3\n4\n"},
	})
}

func TestSpaces(t *testing.T) {
	wantEdits(t, []edit{
		{"g", "a\nb\n", "\n\n"}, {"G", "a\n", "a\n\n"}, {"h;s/a/b/;g", "a\n", "a\n"}, {"h;s/a/b/;G", "a\n", "b\na\n"}, {"H;s/a/b/;G", "a\n", "b\n\na\n"}, {"H;H;g", "a\n", "\na\na\n"}, {"x", "a\nb\nc\n", "\na\nb\n"}, {"x;x", "a\nb\n", "a\nb\n"}, {"h;x;s/a/b/;x;G", "a\n", "a\nb\n"},
		{"1h;$G", "a\nb\nc\n", "a\nb\nc\na\n"}, {"h;G;G", "a\n", "a\na\na\n"}, {"h;d;x", "a\n", ""}, {"1{h;d};2{x;p;x}", "a\nb\n", "a\nb\n"}, {"h;H;x", "a\n", "a\na\n"}, {"g;h;G", "a\n", "\n\n"},
	})
}

func TestPrinting(t *testing.T) {
	wantEdits(t, []edit{
		{"p", "a\nb\n", "a\na\nb\nb\n"}, {"P", "a\n", "a\na\n"}, {"N;P", "a\nb\n", "a\na\nb\n"}, {"N;N;P", "a\nb\nc\n", "a\na\nb\nc\n"}, {`s/^/\n/;P`, "a\n", "\n\na\n"}, {`s/$/\n/;P`, "a\n", "a\na\n\n"}, {"=;=", "a\n", "1\n1\na\n"},
		{"i x", "a\nb\n", "x\na\nx\nb\n"}, {"a x", "a\nb\n", "a\nx\nb\nx\n"}, {"c x", "a\nb\n", "x\nx\n"}, {"i ", "a\n", "\na\n"}, {"a ", "a\n", "a\n\n"}, {"c ", "a\n", "\n"}, {"a  x ;}\\n", "a\n", "a\n x ;}\\n\n"}, {"i " + strings.Repeat("x", 390), "a\n", strings.Repeat("x", 390) + "\na\n"},
		{"a x\na y\ni z", "a\n", "z\na\nx\ny\n"}, {"a x\nc y\np", "a\n", "y\nx\n"}, {"a x\nd", "a\nb\n", "x\nx\n"}, {"2,3c x", "1\n2\n3\n4\n", "1\nx\nx\n4\n"}, {"1!c x", "1\n2\n3\n", "1\nx\nx\n"}, {"/a/a x", "a\nb\na", "a\nx\nb\na\nx\n"}, {"1a x\n$a y", "a\n", "a\nx\ny\n"}, {"a x\n{a y\n}", "a\n", "a\nx\ny\n"},
	})
	wantEdit(t, "", quiet(wide), "a\nb\n", "", api.Ended)
	wantEdit(t, "2p", quiet(wide), "a\nb\n", "b\n", api.Ended)
	wantEdit(t, "a x", quiet(wide), "a\nb\n", "x\nx\n", api.Ended)
	wantEdit(t, "$=", quiet(wide), "a\nb\n", "2\n", api.Ended)
	wantEdit(t, "n;p", quiet(wide), "a\nb\nc\n", "b\n", api.Ended)
	wantEdit(t, "i x\nc y", quiet(wide), "a\n", "x\ny\n", api.Ended)
	wantEdit(t, "P;s/a/b/p;N;N", quiet(wide), "a\nb\n", "a\nb\n", api.Ended)
}

func TestDropping(t *testing.T) {
	wantEdits(t, []edit{
		{"d;p", "a\n", ""}, {"D;p", "a\nb\n", ""}, {"D", "\n", ""}, {`s/,/\n/;D`, "a,b\n", ""}, {`s/,/\n/g;P;D`, "a,b,c\nd\n", "a\nb\nc\nd\n"}, {"a x\ns/,/\\n/;D", "a,b\n", "x\nx\n"}, {"a x\np;s/,/\\n/;D", "a,b\n", "a,b\nx\nb\nx\n"}, {"a x\nD", "a\n", "x\n"},
		// No line is read, so its number stays, and so does what s has put in place.
		{`=;s/,/\n/;D`, "a,b\nc\n", "1\n1\n2\n"}, {`tx;s/,/\n/;D;:x`, "a,b\n", "b\n"}, {`$!N;P;D`, "a\nb\nc\n", "a\nb\nc\n"}, {`/^a\n/b;N;D`, "a\nb\n", "b\n"}, {"N;N;D", "1\n2\n3\n4\n5\n", "3\n4\n5\n"}, {`s/,/\n/;h;D`, "a,b\n", ""}, {`1,2=;s/,/\n/;D`, "a,b\n", "1\n1\n"},
		// What is open stays open.
		{`/a/,/b/=;s/,/\n/;D`, "a,b,c\n", "1\n1\n"},
	})
	wantEdit(t, `s/,/\n/g;D`, quiet(wide), "a,b\n", "", api.Ended)
}

func TestNext(t *testing.T) {
	wantEdits(t, []edit{
		{"n", "a\nb\nc\n", "a\nb\nc\n"}, {"n;d", "a\nb\nc\n", "a\nc\n"}, {"n;n;=", "a\nb\nc\nd\n", "a\nb\n3\nc\nd\n"}, {"$!n;s/./x/", "a\nb\nc\n", "a\nx\nx\n"}, {"n;p", "a\n", "a\n"}, {"n;p", "a", "a\n"}, {"n;p", "", ""}, {"p;n", "a\n", "a\na\n"},
		{"a x\nn;p", "a\n", "a\nx\n"}, {"a x\nn", "a\nb\n", "a\nx\nb\n"}, {"a x\nn;a y", "a\nb\n", "a\nx\nb\ny\n"}, {"n;n", "\n\n\n", "\n\n\n"}, {"1n;=", "a\nb\nc\n", "a\n2\nb\n3\nc\n"}, {"1!n;=", "a\nb\nc\n", "1\na\nb\n3\nc\n"},
		{"N;p", "a\n", "a\n"}, {"N;p", "a", "a\n"}, {"N", "a\nb\nc\n", "a\nb\nc\n"}, {`N;s/\n/+/`, "a\nb\nc\n", "a+b\nc\n"}, {`N;N;s/\n/+/g`, "a\nb\nc\nd\ne\n", "a+b+c\nd\ne\n"}, {`$!N;s/\n/+/`, "a\nb\nc\n", "a+b\nc\n"}, {"N;=", "a\nb\n", "2\na\nb\n"}, {`N;s/\n/+/`, "\n\n", "+\n"}, {`:a;$!{N;ba};s/\n/+/g`, "a\nb\nc", "a+b+c\n"}, {"a x\nN", "a\nb\n", "a\nb\nx\n"}, {"a x\nN;p", "a\n", "a\nx\n"}, {"x;N;x;G", "a\nb\n", "a\n\nb\n"},
	})
	wantEdit(t, "a x\nn;p", quiet(wide), "a\n", "x\n", api.Ended)
	wantEdit(t, "a x\nn", quiet(wide), "a\nb\n", "x\n", api.Ended)
	wantEdit(t, "N", quiet(wide), "a\n", "", api.Ended)
}

func TestQuitting(t *testing.T) {
	for _, c := range []edit{
		{"q", "a\nb\n", "a\n"}, {"q", "a", "a\n"}, {"2q", "a\nb\nc\n", "a\nb\n"}, {"$q", "a\nb", "a\nb\n"}, {"a x\nq;p", "a\nb\n", "a\nx\n"}, {"/b/q;d", "a\nb\nc\n", "b\n"}, {"n;q", "a\nb\nc\n", "a\nb\n"}, {"N;q", "a\nb\nc\n", "a\nb\n"}, {"q", "a\n" + strings.Repeat("b", 100), "a\n"},
	} {
		wantEdit(t, c.script, wide, c.in, c.want, api.Quit)
	}
	wantEdit(t, "p;q", quiet(wide), "a\nb\n", "a\n", api.Quit)
	wantEdit(t, "a x\nq", quiet(wide), "a\nb\n", "x\n", api.Quit)
	wantEdits(t, []edit{{"q", "", ""}, {"2q", "a\n", "a\n"}, {"N;q", "a\n", "a\n"}})
}

func TestBranches(t *testing.T) {
	wantEdits(t, []edit{
		{"b;d", "a\n", "a\n"}, {"/a/bx;d;:x", "a\nb\n", "a\n"}, {"/a/b;d", "a\nb\n", "a\n"}, {"bx;p;:x;=;by;p;:y", "a\n", "1\na\n"}, {":x;s/a/b/;/a/bx", "aaa\n", "bbb\n"}, {"{p;bx;p};d;:x", "a\n", "a\na\n"}, {"bx;{p;:x;=;p};P", "a\n", "1\na\na\na\n"}, {"2{bx;:y;p;b};b;:x;by", "a\nb\n", "a\nb\nb\n"}, {"a x\nb;p", "a\n", "a\nx\n"},
		{"t;d", "a\n", ""}, {"s/a/b/;t;d", "a\nx\n", "b\n"}, {"s/x/b/;t;d", "a\n", ""}, {"s/a/a/;t;d", "a\n", "a\n"}, {"y/a/b/;t;d", "a\n", ""}, {"s/a/b/;s/x/y/;t;d", "a\n", "b\n"}, {"s/x/y/2;t;d", "x\n", ""},
		// A t that goes on elsewhere begins anew, one that does not leaves all as it is.
		{"s/a/b/;tx;:x;t;s/$/y/", "a\n", "by\n"}, {"s/a/b/;2t;t;d", "a\n", "b\n"}, {"s/a/b/;!t;t;d", "a\n", "b\n"}, {"tx;s/a/b/;:x;t;d", "a\n", "b\n"}, {"s/a/b/;t;d;:x", "a\nc\n", "b\n"},
		// So does a line that is read.
		{"s/a/b/;n;t;s/$/y/", "a\nc\n", "b\ncy\n"}, {"s/a/b/;N;t;s/$/y/", "a\nc\n", "b\ncy\n"}, {"t;s/a/b/;b", "a\na\n", "b\nb\n"}, {"2{t;d};s/a/b/", "a\na\n", "b\n"},
	})
}

func TestBlocks(t *testing.T) {
	const three = "a\nb\nc\n"
	wantEdits(t, []edit{
		{"{}", three, three}, {"2{}", three, three}, {"2{p}", three, "a\nb\nb\nc\n"}, {"2!{p}", three, "a\na\nb\nc\nc\n"}, {"2{d};p", three, "a\na\nc\nc\n"}, {"1{2{p};=};P", three, "1\na\na\nb\nb\nc\nc\n"}, {"/[ab]/{/b/{=;p}}", three, "a\n2\nb\nb\nc\n"}, {"{{{{{p}}}}}", "a\n", "a\na\n"}, {"1{1{1{1{1{p}}}}};2{2{2{2{2{=}}}}}", three, "a\na\n2\nb\nc\n"}, {"{s/a/b/};{s/b/c/};{}", "a\n", "c\n"},
		{"2{};p", three, "a\na\nb\nb\nc\nc\n"}, {"2{{p};=};{=}", three, "1\na\nb\n2\n2\nb\n3\nc\n"}, {"1,2{2,3{p}}", three, "a\nb\nb\nc\n"},
	})
}

func TestSubstituting(t *testing.T) {
	wantEdits(t, []edit{
		{"s/o/0/", "foo\n", "f0o\n"}, {"s/x/0/", "foo\n", "foo\n"}, {"s/o//", "foo\n", "fo\n"}, {"s/o//g", "foo\n", "f\n"}, {"s/a|aa/x/", "aaa\n", "xa\n"}, {"s/a*/x/", "baa\n", "xbaa\n"}, {"s/$/x/", "\n", "x\n"}, {"s/^/x/", "a\n", "xa\n"},
		// Which matches.
		{"s/o/0/1", "ooo\n", "0oo\n"}, {"s/o/0/2", "ooo\n", "o0o\n"}, {"s/o/0/3", "ooo\n", "oo0\n"}, {"s/o/0/4", "ooo\n", "ooo\n"}, {"s/o/0/9", "ooooooooo\n", "oooooooo0\n"}, {"s/o/0/g", "ooo\n", "000\n"}, {"s/o/0/1g", "ooo\n", "000\n"}, {"s/o/0/2g", "ooo\n", "o00\n"}, {"s/o/0/g3", "ooo\n", "oo0\n"}, {"s/o/0/g4", "ooo\n", "ooo\n"}, {"s/oo/x/g", "ooooo\n", "xxo\n"}, {"s/oo/x/2", "ooooo\n", "ooxo\n"},
		// Empty ones: never at the end of another.
		{"s/x*/-/g", "abc\n", "-a-b-c-\n"}, {"s/x*/-/g", "\n", "-\n"}, {"s/x*/-/g", "x\n", "-\n"}, {"s/x*/-/g", "xax\n", "-a-\n"}, {"s/x*/-/g", "axxb\n", "-a-b-\n"}, {"s/x*/-/2", "axxb\n", "a-b\n"}, {"s/x*/-/3", "axxb\n", "axxb-\n"}, {"s/x*/-/4", "axxb\n", "axxb\n"}, {"s/x*/-/2g", "axxb\n", "a-b-\n"}, {"s/a|x*/-/g", "axxb\n", "--b-\n"}, {"s/a|$/-/g", "ba\n", "b-\n"}, {"s/b|$/-/g", "ba\n", "-a-\n"}, {"s/(a|^)/-/g", "aa\n", "--\n"}, {"s/(b|^)/-/g", "ab\n", "-a-\n"}, {"s/^|b/-/2", "ab\n", "a-\n"},
		// The text's own beginning and end.
		{"s/^a/x/g", "aaa\n", "xaa\n"}, {"s/a$/x/g", "aaa\n", "aax\n"}, {"s/^/x/g", "aa\n", "xaa\n"}, {"s/$/x/g", "aa\n", "aax\n"}, {`N;s/^./x/g`, "a\nb\n", "x\nb\n"}, {`N;s/.$/x/g`, "a\nb\n", "a\nx\n"}, {`N;s/./x/g`, "a\nb\n", "xxx\n"}, {`N;s/[^a]/x/g`, "a\nb\n", "axx\n"},
		// Templates.
		{"s/a/&&/", "ba\n", "baa\n"}, {`s/a/\&/`, "ba\n", "b&\n"}, {`s/a/\\/`, "ba\n", "b\\\n"}, {`s/a/\//`, "ba\n", "b/\n"}, {`s/a/\n/`, "bac\n", "b\nc\n"}, {`s/a/\\n/`, "ba\n", "b\\n\n"}, {`s/(.)(.)/\2\1/g`, "abcde\n", "badce\n"}, {`s/(a)|(b)/[\1\2]/g`, "ab\n", "[a][b]\n"}, {`s/(a)?(b)/[\1]/g`, "abb\n", "[a][]\n"}, {`s/((a)b)*/<\1\2>/`, "abab\n", "<aba>\n"}, {`s/(a|ab)(c|bcd)(d*)/<\1|\2|\3>/`, "abcd\n", "<ab|c|d>\n"},
		{`s/(.)(.)(.)(.)(.)(.)(.)(.)(.)/\9\8\7\6\5\4\3\2\1/`, "123456789\n", "987654321\n"}, {`s/(.)/\10/`, "ab\n", "a0b\n"},
	})
	// And then it may be printed.
	wantEdits(t, []edit{{"s/a/b/p", "a\nx\n", "b\nb\nx\n"}, {"s/a/a/p", "a\n", "a\na\n"}, {"s/a/b/gp", "aa\n", "bb\nbb\n"}, {"s/a/b/p2", "aa\na\n", "ab\nab\na\n"}, {`s/,/\n/p`, "a,b\n", "a\nb\na\nb\n"}})
}

func TestTransliterating(t *testing.T) {
	wantEdits(t, []edit{
		{"y/abc/bca/", "abcabd\n", "bcabcd\n"}, {"y/ab/cc/", "abd\n", "ccd\n"}, {"y///", "ab\n", "ab\n"}, {"y/x/y/", "ab\n", "ab\n"}, {"y/a/b/", "\n", "\n"}, {`N;y/\n/,/`, "a\nb\n", "a,b\n"}, {`y/,/\n/;P`, "a,b\n", "a\na\nb\n"}, {`y/\\\//\/\\/`, "a\\/\n", "a/\\\n"}, {"y/\x00\xff/\xff\x00/", "\x00a\xff\n", "\xffa\x00\n"}, {`y/n\n/xy/`, "n\n", "x\n"},
	})
}

// limited is an edit with limits, and how it ends.
type limited struct {
	script   string
	l        api.Limits
	in, want string
	state    int
}

func wantLimited(t *testing.T, cases []limited) {
	t.Helper()
	for _, c := range cases {
		wantEdit(t, c.script, c.l, c.in, c.want, c.state)
	}
}

func TestLinesThatAreTooLong(t *testing.T) {
	three := api.Limits{Line: 3, Space: 80, Fuel: 9}
	wantLimited(t, []limited{
		{"", three, "abc\nabc", "abc\nabc\n", api.Ended}, {"", three, "abc\nabcd\ne\n", "abc\n", api.LongLine}, {"", three, "abcd", "", api.LongLine}, {"d", three, "abcd\n", "", api.LongLine},
		// What n prints ahead of it is printed, N does nothing.
		{"n;p", three, "a\nabcd\n", "a\n", api.LongLine}, {"a x\nn", three, "a\nabcd\n", "a\nx\n", api.LongLine}, {"a x\nn", quiet(three), "a\nabcd\n", "x\n", api.LongLine}, {"a x\np;N;p", three, "a\nabcd\n", "a\n", api.LongLine}, {"N", three, "abc\nabc\n", "abc\nabc\n", api.Ended},
		// It goes ahead of a space that is too small.
		{"", api.Limits{Line: 3, Space: 2, Fuel: 1}, "abcd\n", "", api.LongLine}, {"", api.Limits{Line: 3, Space: 2, Fuel: 1}, "abc\n", "", api.Overflow}, {"N", api.Limits{Line: 3, Space: 3, Fuel: 1}, "abc\nabcd\n", "", api.LongLine},
		// A line that is never read is not asked how long it is.
		{"q", three, "abc\nabcd\n", "abc\n", api.Quit}, {"$!{p;q}", three, "abc\nabcd\n", "abc\nabc\n", api.Quit},
		{"", api.Limits{Line: 1, Space: 1, Fuel: 1}, "a\n\nb", "a\n\nb\n", api.Ended}, {"", api.Limits{Line: 1, Space: 1, Fuel: 1}, "a\n\nbc", "a\n\n", api.LongLine}, {"", wide, strings.Repeat("a", 80) + "\n", strings.Repeat("a", 80) + "\n", api.Ended}, {"", wide, strings.Repeat("a", 81), "", api.LongLine},
	})
}

func TestSpacesThatOverflow(t *testing.T) {
	four := api.Limits{Line: 80, Space: 4, Fuel: 9}
	wantLimited(t, []limited{
		{"", four, "abcd\nabcde\n", "abcd\n", api.Overflow}, {"n", four, "a\nabcde\n", "a\n", api.Overflow}, {"a x\nN", four, "ab\nc\nab\ncd\n", "ab\nc\nx\n", api.Overflow}, {"N;N", four, "a\nb\nc\n", "", api.Overflow}, {"N;N", four, "a\nb\n\n", "a\nb\n\n", api.Ended}, {"N;N", four, "a\nb\n", "a\nb\n", api.Ended},
		{"G", four, "abc\nabcd\n", "abc\n\n", api.Overflow}, {"h;G;p", four, "a\nab\n", "a\na\na\na\n", api.Overflow}, {"H", four, "abc\na\n", "abc\n", api.Overflow}, {"H;H;p", four, "a\n", "a\na\n", api.Ended}, {"x;p;G", four, "abc\nabcd\n", "\n\nabc\nabc\n", api.Overflow}, {"h;g;x;g", four, "abcd\n", "abcd\n", api.Ended},
		{"s/a/aa/g", four, "aa\naab\n", "aaaa\n", api.Overflow}, {"s/a/bbbb/p", four, "a\nab\n", "bbbb\nbbbb\n", api.Overflow}, {"s/.*/" + strings.Repeat("&", 380) + "/", four, "\nab\n", "\n", api.Overflow}, {"s/a/bb/2", four, "aaa\naaaa\n", "abba\n", api.Overflow}, {"s/a*(b)/\\1/", four, "aaab\n", "b\n", api.Ended},
		// Texts are not bounded by it, nor are those to come.
		{"a abcdef\ni ghijkl", four, "a\n", "ghijkl\na\nabcdef\n", api.Ended}, {"c abcdef", four, "a\n", "abcdef\n", api.Ended},
		{"x;G;x", api.Limits{Line: 1, Space: 1, Fuel: 3}, "\n", "\n", api.Ended}, {"G", wide, strings.Repeat("a", 79) + "\n", strings.Repeat("a", 79) + "\n\n", api.Ended}, {"G", wide, strings.Repeat("a", 80) + "\n", "", api.Overflow},
	})
}

func TestFuelThatIsSpent(t *testing.T) {
	fuel := func(n int) api.Limits { return api.Limits{Line: 80, Space: 80, Fuel: n} }
	wantLimited(t, []limited{
		{"p;p;p", fuel(3), "a\nb\n", "a\na\na\na\nb\nb\nb\nb\n", api.Ended}, {"p;p;p", fuel(2), "a\nb\n", "a\na\n", api.Spent}, {"a x\np;p", fuel(2), "a\nb\n", "a\n", api.Spent}, {"", fuel(1), "a\nb\n", "a\nb\n", api.Ended},
		// What is not selected counts, and so do blocks, but neither a } nor a label.
		{"9p;9p", fuel(1), "a\n", "", api.Spent}, {"9!{p}", fuel(1), "a\n", "", api.Spent}, {"9!{p}", fuel(2), "a\n", "a\na\n", api.Ended}, {"9{p;p;p};p", fuel(2), "a\n", "a\na\n", api.Ended}, {"9{p;p;p};p", fuel(1), "a\n", "", api.Spent}, {"{{{{{}}}}}", fuel(5), "a\n", "a\n", api.Ended}, {"{{{{{}}}}}", fuel(4), "a\n", "", api.Spent}, {":a;:b;:c;p;:d", fuel(1), "a\n", "a\na\n", api.Ended}, {"b;p;p", fuel(1), "a\n", "a\n", api.Ended},
		// Each line that is read begins it anew, D does not.
		{"n;n;p", fuel(1), "a\nb\nc\n", "a\nb\nc\nc\n", api.Ended}, {"N;N;p", fuel(1), "a\nb\nc\n", "a\nb\nc\na\nb\nc\n", api.Ended}, {"p;n;p;p", fuel(2), "a\nb\n", "a\na\nb\nb\nb\n", api.Ended}, {"n;p;p", fuel(1), "a\nb\n", "a\nb\n", api.Spent}, {`s/,/\n/g;P;D`, fuel(9), "a,b,c\na,b,c\n", "a\nb\nc\na\nb\nc\n", api.Ended}, {`s/,/\n/g;P;D`, fuel(8), "a,b,c\n", "a\nb\nc\n", api.Spent}, {"D", fuel(1), "a\nb\n", "", api.Ended},
		{":a;ba", fuel(1000), "a\n", "", api.Spent}, {"i x\n:a;ba", fuel(1000), "a\n", "x\n", api.Spent}, {"G;D", fuel(1000), "a\n", "", api.Spent}, {":a;p;ba", fuel(1000), "\n", strings.Repeat("\n", 500), api.Spent}, {":a;s/a/a/;ta", fuel(7), "a\n", "", api.Spent}, {":a;N;ba", fuel(2), "a\nb\nc\n", "a\nb\nc\n", api.Ended}, {":a;N;ba", fuel(1), "a\nb\nc\n", "", api.Spent},
	})
}
