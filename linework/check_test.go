package linework_test

import (
	"math/rand"
	"strings"
	"sync"
	"testing"

	"linework/api"
	"linework/linework"
)

func check(s string) answer {
	e, at := linework.Check(s)
	return answer{e, at}
}

func wantCheck(t *testing.T, s string, want answer) {
	t.Helper()
	if got := check(s); got != want {
		t.Errorf("P6: Check(%q) = %v, want %v", s, got, want)
	}
}

func wantScript(t *testing.T, s string) {
	t.Helper()
	wantCheck(t, s, answer{api.OK, 0})
}

func wantScriptPlace(t *testing.T, s string, at int) {
	t.Helper()
	wantCheck(t, s, answer{api.ErrScript, at})
}

// placed is a script and the place of its fault.
type placed struct {
	s  string
	at int
}

// wantScriptPlaces asks for the faults of scripts, which are the same whatever
// stands behind them; the fault of a script that only ends too early is at its
// end.
func wantScriptPlaces(t *testing.T, cases []placed) {
	t.Helper()
	for _, c := range cases {
		wantScriptPlace(t, c.s, c.at)
		if c.at == len(c.s) {
			continue
		}
		for _, more := range []string{"p", "}", "/", "\n", ";ba", "\xff"} {
			wantScriptPlace(t, c.s+more, c.at)
		}
	}
}

func TestCheckExamples(t *testing.T) {
	wantScriptPlaces(t, []placed{{"q x", 2}, {"3,d", 2}, {`s/a/\1/`, 5}, {"{p", 2}})
	wantCheck(t, "bxy", answer{api.ErrLabel, 1})
	wantCheck(t, ":a;:a", answer{api.ErrLabel, 4})
	for _, s := range []string{
		"", "s/o/0/g", "s/o*/x/g", "s/b*/x/2", `s/\(a\)/<&>/`, "$!d", "1!G;h;$!d", "N;P;D", ":a\ns/^(.{1,5})$/ \\1/;ta",
	} {
		wantScript(t, s)
	}
}

func TestLengthOfScripts(t *testing.T) {
	for _, s := range []string{";", "p;", "p\n", " "} {
		wantScript(t, strings.Repeat(s, 400/len(s)))
	}
	wantScript(t, "a "+strings.Repeat("x", 398))
	wantScriptPlace(t, strings.Repeat(" ", 399)+"z", 399)
	wantScriptPlace(t, strings.Repeat(" ", 399)+"{", 400)
	long := answer{api.ErrLong, 0}
	for _, s := range []string{
		strings.Repeat(";", 401), strings.Repeat("z", 401), "z" + strings.Repeat(" ", 400), strings.Repeat("{", 401),
		"/" + strings.Repeat("a", 399) + "/", "bxy" + strings.Repeat(" ", 398), "a " + strings.Repeat("x", 399), strings.Repeat("\xff", 1<<20),
	} {
		wantCheck(t, s, long)
	}
}

func TestBetweenCommands(t *testing.T) {
	for _, s := range []string{
		";", "\n", " ", ";;; \n\n ;", "p;", ";p", "p\n", "\np", " p ", "p ;p", "p;;p", "p\n\np", "p; p", "p \n p", "p ;\n; p ; ",
		"{}", "{ }", "{;}", "{\n}", "{;;p;;}", "{p }", "{p\n}", "{p}", "{ p ; p }", "{}\n{}", "{} ;{}", "{{}}", "{{p} }", "{{};{}}", "{p;{p};p}",
		"b;b", "b ", "{b }", "{ba;:a}", "{:a }", "t ;t", "s/a/b/ ;p", "s/a/b/g\np", "y/a/b/ ;p", "= ; =",
	} {
		wantScript(t, s)
	}
	wantScriptPlaces(t, []placed{
		{"pp", 1}, {"p p", 2}, {"p  p", 3}, {"p\tp", 1}, {"p1p", 1}, {"p!p", 1}, {"p{", 1}, {"p:a", 1}, {"p,p", 1}, {"p/", 1},
		{"{}p", 2}, {"{} p", 3}, {"{p}{", 3}, {"{}!", 2}, {"{}1", 2}, {"{p p", 3}, {"{pp", 2}, {"s/a/b/s", 6}, {"y/a/b/ y", 7}, {":a :b", 3}, {"ba :b", 3}, {"\r", 0}, {"p\r", 1}, {"p;\t", 2},
	})
}

func TestBraces(t *testing.T) {
	for _, s := range []string{"{{{{{}}}}}", "1{2{3{4{5{p}}}}}", "{{{{{};{}}}}};{{{{{}}}}}", "!{}", "$ ! {}", "/}/{}", `s/\{/}/`} {
		wantScript(t, s)
	}
	wantScriptPlaces(t, []placed{
		{"{", 1}, {"{ ", 2}, {"{p;", 3}, {"{{}", 3}, {"{{{{{", 5}, {"{a }", 4}, {"{a }\n", 5}, {"{};{", 4},
		{"}", 0}, {" }", 1}, {";}", 1}, {"p}", 1}, {"p }", 2}, {"p;}", 2}, {"{}}", 2}, {"{} }", 3}, {"{};}", 3}, {"{{}}}", 4}, {"a x\n}", 4},
		{"{{{{{{", 5}, {"{{{{{1{", 6}, {"{{{{{!{", 6}, {"{{{{{p;{", 7}, {"{{{{{};{{", 8}, {"1{2{3{4{5{6{", 11},
		{"1}", 1}, {"{1}", 2}, {"{1 }", 3}, {"{!}", 2}, {"{! }", 3}, {"{1!}", 3}, {"{/a/}", 4},
	})
}

func TestAddresses(t *testing.T) {
	for _, s := range []string{
		"1p", "$p", "/a/p", "1,2p", "2,1p", "1,$p", "$,1p", "$,$p", "/a/,/b/p", "/a/,3p", "3,/a/p", "/a/,$p",
		"1 p", "1   p", "1!p", "1 !p", "1! p", "1  !  p", "!p", "!  p", "1,2 ! {p}", `/\//p`, `/[\/]/p`, `/a\/b/,/\\/p`, "/}/p", "/;/p", "/ /p", "/!/!p",
	} {
		wantScript(t, s)
	}
	for _, what := range []string{"{}", "d", "D", "n", "N", "p", "P", "g", "G", "h", "H", "x", "=", "q", "a x", "i x", "c x", "b", "t", "s/a/b/", "y/a/b/"} {
		for _, ahead := range []string{"", "1", "1 ", "$", "/a/", "1,2", "!", "! ", "1!", "1 ! "} {
			wantScript(t, ahead+what)
		}
	}
	wantScriptPlaces(t, []placed{
		{"1", 1}, {"1 ", 2}, {"$", 1}, {"/a/", 3}, {"1,", 2}, {"1,2", 3}, {"1,2 ", 4}, {"1!", 2}, {"!", 1}, {"! ", 2}, {"/", 1}, {"/a", 2}, {"1,/", 3}, {"1,/a", 4}, {`/\`, 2}, {`/a\/`, 4},
		{",", 0}, {",1p", 0}, {"1,p", 2}, {"1, 2p", 2}, {"1 ,2p", 2}, {"1,2,3p", 3}, {"1,!p", 2}, {"1;", 1}, {"1\np", 1}, {"1 ;", 2}, {"!;", 1}, {"1\tp", 1},
		{"$$", 1}, {"$1", 1}, {"1$", 1}, {"1/a/p", 1}, {"/a/1p", 3}, {"/a//b/p", 3}, {"!1p", 1}, {"!$", 1}, {"!/", 1}, {"!!p", 1}, {"! !", 2}, {"1!!", 2}, {"1!2p", 2}, {"-1p", 0}, {"+1p", 0},
		{"1:a", 1}, {"1 :a", 2}, {"!:a", 1}, {"! :a", 2}, {"$:a", 1}, {"/a/:a", 3}, {"1,2:a", 3}, {"1!:a", 2}, {"1z", 1}, {"!z", 1},
	})
}

func TestNumbers(t *testing.T) {
	for _, s := range []string{"1", "9", "10", "01", "001", "0001", "0010", "0100", "1000", "9999", "90", "0900"} {
		wantScript(t, s+"p")
		wantScript(t, s+","+s+"p")
		wantScriptPlace(t, s, len(s))
	}
	wantScriptPlaces(t, []placed{
		{"0", 1}, {"00", 2}, {"000", 3}, {"0000", 3}, {"00000", 3}, {"0p", 1}, {"00p", 2}, {"000p", 3}, {"0000p", 3}, {"0,1p", 1}, {"0!p", 1}, {"0 p", 1},
		{"00001p", 3}, {"00010p", 4}, {"00010", 4}, {"12345", 4}, {"10000p", 4}, {"99999", 4}, {"1,0p", 3}, {"1,0000", 5}, {"1,00001", 5}, {"1,00000", 5}, {"1,12345", 6}, {"1,0", 3}, {"0x1p", 1},
	})
}

func TestPatternsWithinScripts(t *testing.T) {
	for _, s := range []string{"a", ".", "a|b", "(a)*", "[^a-c]+", `\/`, `[\/]`, `[.-\/]`, `[\/-9]`, `[^\/\n]`, `\\`, `a{1,2}`, "]", "[~-\xff]", "(((((a)))))", strings.Repeat("(a)", 9), `[}-\}]`, "\x00\xff"} {
		wantScript(t, "/"+s+"/p")
		wantScript(t, "1,/"+s+"/p")
		wantScript(t, "s/"+s+"/x/")
	}
	faults := []placed{
		{"", 0}, {"a**", 2}, {"*", 0}, {"a|", 2}, {"|", 0}, {"(a", 2}, {")", 0}, {"a)", 1}, {"[", 1}, {"[]", 1}, {"[a", 2}, {"[a-", 3}, {"[b-a]", 3}, {"[a-]", 3}, {"a{3,2}", 4}, {"a{", 2}, {"a{1", 3}, {"a{1,", 4}, {"a{10}", 3},
		{`\d`, 1}, {`[\d]`, 2}, {"a\n", 1}, {"[\n]", 1}, {"\\\n", 1}, {`[~-\}]`, 3}, {"[\x7f-\\", 3}, {`[\}-\{]`, 5}, {"((((((a", 5}, {strings.Repeat("(a)", 10), 27},
	}
	for _, c := range faults {
		// A fault at the pattern's end is at the `/` there.
		wantScriptPlace(t, "/"+c.s+"/p", 1+c.at)
		wantScriptPlace(t, "{1,/"+c.s+"/d}", 4+c.at)
		wantScriptPlace(t, "p;s/"+c.s+"/x/;q", 4+c.at)
		wantScriptPlace(t, "s/"+c.s, 2+c.at)
	}
	wantScriptPlaces(t, []placed{{"//p", 1}, {"/[/]/p", 2}, {"/[^/]/p", 3}, {"/[a-/]/p", 4}, {"/(/)/p", 2}, {"/a{/", 3}, {"/a{1,/", 5}, {`/\//`, 4}, {`/\\//`, 4}, {`/\\\//`, 6}})
}

func TestTexts(t *testing.T) {
	for _, c := range []string{"a", "i", "c"} {
		for _, s := range []string{" ", " x", "  ", "  x ", " }", " ;", " x;y}{", " :a", " ba", ` \`, ` \1/`, " \x00\xff\r\t", " x\n", " \n", " x\n\n", " x\n;p", " x\n p", " x\n" + c + " y", " 1,"} {
			wantScript(t, c+s)
			wantScript(t, "{"+c+s+"\n}")
		}
		wantScriptPlaces(t, []placed{{c, 1}, {c + "x", 1}, {c + "\n", 1}, {c + ";", 1}, {"{" + c + "}", 2}, {c + "\\", 1}, {c + "\t", 1}, {"{" + c + " }", 4}, {c + " x\nz", 4}, {c + " x\n}", 4}, {c + c, 1}})
	}
}

func TestLabelsAsTheyAreWritten(t *testing.T) {
	for _, s := range []string{":a", ":z", ":abcdefgh", ":a;b", ":a;ba", ":a ;ba ", ":a\nta\n", "{:a}", "{ba};:a", "b", "t", "b ", "{b}", "{t }", "b\nt", ":p;bp", ":d;td"} {
		wantScript(t, s)
	}
	wantScriptPlaces(t, []placed{
		{":", 1}, {": ", 1}, {": a", 1}, {":;", 1}, {":\n", 1}, {":}", 1}, {"{:}", 2}, {"::", 1}, {":A", 1}, {":1", 1}, {":`", 1}, {":{", 1}, {":aA", 2}, {":a1", 2}, {":a{", 2}, {":a`", 2}, {":a}", 2}, {":a,", 2}, {":a:", 2},
		{":abcdefghi", 9}, {":zzzzzzzzz", 9}, {":a b", 3},
		{"bA", 1}, {"b1", 1}, {"b{", 1}, {"b`", 1}, {"b a", 2}, {"b}", 1}, {"babcdefghi", 9}, {"ba1", 2}, {"ba b", 3},
		{"tA", 1}, {"t a", 2}, {"t}", 1}, {"tabcdefghi", 9}, {"tz{", 2}, {"t,", 1},
	})
}

func TestSubstitutions(t *testing.T) {
	for _, s := range []string{
		"s/a//", "s/a/b/", "s/a/&/", "s/a/&&b&/", `s/a/\&\n\\\//`, `s/a/\\1/`, "s/a/;}{ /", "s/a/\x00\xff/", "s/a/$^.*[]()|/", `s/(a)/\1/`, `s/(a)/\1\1&/`, `s/((a)b)/\2\1/`,
		"s/" + strings.Repeat("(a)", 9) + `/\1\2\3\4\5\6\7\8\9/`, `s/(a)/\12/`, `s/(a)/\\\1/`, `s/\(a[(](b)/\1/`,
	} {
		wantScript(t, s)
		wantScript(t, "{"+s+"}")
		wantScript(t, "1!"+s+" ;p")
	}
	for _, f := range []string{"", "g", "p", "1", "9", "gp", "pg", "g1", "1g", "p2", "2p", "gp3", "g3p", "pg3", "p3g", "3gp", "3pg"} {
		wantScript(t, "s/a/b/"+f)
		wantScript(t, "s/a/b/"+f+" ")
		for _, more := range []string{"0", "x", "G", "P", "/", "{", "}", "!", ":", ",", "&", "\\"} {
			wantScriptPlace(t, "s/a/b/"+f+more, 6+len(f))
		}
		for i := range f {
			wantScriptPlace(t, "s/a/b/"+f+f[i:i+1], 6+len(f))
		}
	}
	wantScriptPlaces(t, []placed{
		{"s", 1}, {"s/", 2}, {"s/a", 3}, {"s/a/", 4}, {"s/a/b", 5}, {`s/a/\`, 5}, {`s/a/\/`, 6}, {"s/a/&", 5},
		{"s ", 1}, {"sa", 1}, {"s|a|b|", 1}, {"s;", 1}, {"s/a/\n", 4}, {"s/a/b\n", 5}, {"s/a/\\\n", 5}, {`s/a/\x`, 5}, {`s/a/\(`, 5}, {`s/a/\N`, 5}, {`s/a/\ `, 5}, {"s/a/\\\xff", 5},
		{`s/a/\0`, 5}, {`s/(a)/\0`, 7}, {`s/a/\1`, 5}, {`s/a/\9`, 5}, {`s/(a)/\2`, 7}, {`s/(a)/\1\2`, 9}, {`s/((a)(b))/\4`, 12}, {`s/\(a/\1`, 7}, {`s/[(]/\1`, 7}, {"s/" + strings.Repeat("(a)", 8) + `/\9`, 28},
		{"s/a/b/12", 7}, {"s/a/b/g1p2", 9}, {"s/a/b/ g", 7}, {"s/a/b/g p", 8}, {"s/a/b/gg", 7}, {"s/a/b/pgp", 8},
	})
}

func TestTransliterations(t *testing.T) {
	for _, s := range []string{
		"y///", "y/a/b/", "y/abc/bca/", "y/ab/cc/", "y/a/a/", `y/\n/a/`, `y/a/\n/`, `y/\n\\\//abc/`, `y/abc/\n\\\//`, `y/abc/\n\n\n/`, "y/;}/{ /", "y/n/N/", "y/\x00\xff/\xff\x00/", "y/\xc3\xa4/ab/", "y/&.*[/1234/", `y/n\n/ab/`,
	} {
		wantScript(t, s)
		wantScript(t, "{"+s+" }")
		wantScript(t, "$!"+s+";p")
	}
	wantScriptPlaces(t, []placed{
		{"y", 1}, {"y/", 2}, {"y/a", 3}, {"y/a/", 4}, {"y/a/b", 5}, {"y//", 3}, {`y/\`, 3}, {`y/a/\`, 5}, {`y/\/`, 4}, {"y/ab/c", 6},
		{"y ", 1}, {"ya", 1}, {"y|a|b|", 1}, {"y/\n", 2}, {"y/a\n", 3}, {"y/a/\n", 4}, {"y/a/b\n", 5}, {"y/\\\n", 3}, {"y/a/\\\n", 5},
		{"y/a//", 4}, {"y/ab/c/", 6}, {`y/\n\\/a/`, 8}, {`y/ab/\n/`, 7}, {"y//x", 3}, {"y/a/bc", 5}, {`y/a/b\`, 5}, {`y/a/\nb`, 6}, {`y//\`, 3}, {`y/\n/ab`, 6}, {`y/\n/\n\n`, 7}, {"y/\xc3\xa4/a/", 6},
		{"y/aa", 3}, {"y/aba", 4}, {`y/\n\n`, 5}, {`y/\\\\`, 5}, {`y/\/\/`, 5}, {`y/a\/b\/`, 7}, {"y/\xff\xff", 3},
		{`y/\x`, 3}, {`y/\a`, 3}, {`y/\&`, 3}, {`y/\1`, 3}, {`y/a/\x`, 5}, {`y/a/\&`, 5}, {`y/\n\x`, 5}, {`y/\N`, 3},
		// Nothing is left that could stand behind the last backslash.
		{`y/\n\\\/\`, 8}, {`y/\/\\\n\n`, 8}, {`y/\\a\nb\/c\`, 11}, {`y/\\\/\`, 7}, {`y/\n\\\`, 7}, {`y/\n\/\`, 7},
		{"y/a/b/g", 6}, {"y/a/b/ p", 7}, {"y/a/b/c/", 6},
	})
}

func TestCommandsThatAreNone(t *testing.T) {
	const are = "{}dDnNpPgGhHx=qaic:btsy 0123456789;\n!$/"
	for b := range 256 {
		s := string([]byte{byte(b)})
		if strings.Contains(are, s) {
			continue
		}
		wantScriptPlaces(t, []placed{{s, 0}, {"p;" + s, 2}, {"{" + s, 1}, {"!" + s, 1}, {"1 " + s, 2}, {"/a/ ! " + s, 6}})
	}
}

func TestPatternsOfScriptsThatAreTooLong(t *testing.T) {
	forty, more := strings.Repeat("a", 40), strings.Repeat("a", 41)
	long := func(s string, at int) { t.Helper(); wantCheck(t, s, answer{api.ErrPattern, at}) }
	for _, s := range []string{"/" + forty + "/p", "1,/" + forty + "/p", "s/" + forty + "/b/", "s/a/" + more + "/", "a " + more, "y/a/b/;a /" + more + "/", "s/" + forty[:38] + `\//b/`, "/" + forty + "/,/" + forty + "/p"} {
		wantScript(t, s)
	}
	long("/"+more+"/p", 1)
	long("1,/"+more+"/p", 3)
	long("{s/"+more+"/b/}", 3)
	long("/"+forty+"/,/"+more+"/p", 44)
	long("/"+more+"/,/"+more+"/p", 1)
	long("s/"+forty+"/b/;s/"+more+"/b/;/"+more+"/p", 48)
	// What stands there is counted, not what it means.
	long("/"+forty[:39]+`\//p`, 1)
	long("s/"+strings.Repeat(`\/`, 21)+"/b/", 2)
	long("/"+strings.Repeat("a*", 150)+"/p", 1)
	long("/"+strings.Repeat("[a]", 14)+"/{p\n}", 1)
}

func TestScriptErrorNamedFirst(t *testing.T) {
	more := strings.Repeat("a", 41)
	for _, c := range []struct {
		s    string
		want answer
	}{
		// A fault of the script, ahead of a pattern that is too long or behind it.
		{"/" + more + "/z", answer{api.ErrScript, 43}},
		{"/" + more + "/", answer{api.ErrScript, 43}},
		{"/" + more, answer{api.ErrScript, 42}},
		{"/" + more + "**/p", answer{api.ErrScript, 43}},
		{"s/" + more + `/\1/`, answer{api.ErrScript, 45}},
		{"{/" + more + "/p", answer{api.ErrScript, 45}},
		{"z;/" + more + "/p", answer{api.ErrScript, 0}},
		{"/" + more + "/p;0p", answer{api.ErrScript, 46}},
		// A fault of the script and one of its labels.
		{"bxy;z", answer{api.ErrScript, 4}},
		{":a;:a;{", answer{api.ErrScript, 7}},
		{":a;:a}", answer{api.ErrScript, 5}},
		// A pattern that is too long and a fault of the labels.
		{"bxy;/" + more + "/p", answer{api.ErrPattern, 5}},
		{":a;:a;s/" + more + "/b/", answer{api.ErrPattern, 8}},
		{"/" + more + "/bxy", answer{api.ErrPattern, 1}},
		// All of them, and too many bytes.
		{"bxy;/" + more + "/p;z" + strings.Repeat(" ", 400), answer{api.ErrLong, 0}},
		{"bxy;/" + more + "/p;z", answer{api.ErrScript, 49}},
	} {
		wantCheck(t, c.s, c.want)
	}
}

func TestLabelsTwiceOrNowhere(t *testing.T) {
	for _, s := range []string{":a;:b;ba;tb", "ba;:a", "ba;ta;:a", "{ba};{:a}", ":a;:aa;baa", ":ab;:ba;bab", "a :a\nb", ":a;a :a", "i ba\n:a", "s/:a/ba/;:a", ":abcdefgh;:abcdefg"} {
		wantScript(t, s)
	}
	for _, c := range []placed{
		{"ba", 1}, {"ta", 1}, {"b;t;ba", 5}, {"1,2!ba", 5}, {"{ba}", 2}, {":a;bb", 4}, {":a;baa", 4}, {":aa;ba", 5}, {"ba;:b", 1}, {"ba;bb", 1},
		{":a;:a", 4}, {":a;:a;:a", 4}, {":a;{:a}", 5}, {":ab;:cd;:ab", 9}, {":a;:b;:b;:a", 7}, {"{:a};:a", 6},
		{":a;:a;bb", 4}, {"bb;:a;:a", 1}, {":a;bb;:a", 4}, {":b;:a;bb;:b;tc", 10}, {":a;ta;:a", 7}, {"a :a\nba", 6}, {"ba;a :a", 1}, {":abcdefgh;babcdefg", 11},
	} {
		wantCheck(t, c.s, answer{api.ErrLabel, c.at})
	}
}

// madeScript is a script of random commands, and what the document's words say of its
// patterns and labels.
func madeScript(chance *rand.Rand) (string, answer) {
	pick := func(from ...string) string { return from[chance.Intn(len(from))] }
	long, label := -1, -1
	s, wanted, marked := "", map[int]string{}, map[int]string{}
	pattern := func() {
		text := strings.Repeat("a", chance.Intn(2)*chance.Intn(12)+31)
		if long < 0 && len(text) > 40 {
			long = len(s)
		}
		s += text
	}
	for len(s) < 200 && chance.Intn(8) > 0 {
		name := pick("a", "b", "ab", "ba")
		switch chance.Intn(6) {
		case 0:
			s += "/"
			pattern()
			s += "/p"
		case 1:
			s += "s/"
			pattern()
			s += "/" + strings.Repeat("b", 45) + "/"
		case 2, 3:
			s += ":"
			marked[len(s)] = name
			s += name
		case 4:
			s += pick("b", "t", "1b", "!t")
			wanted[len(s)] = name
			s += name
		case 5:
			s += pick("b", "a :a", "c bab", "{p}")
		}
		s += "\n"
	}
	for at := len(s); at >= 0; at-- {
		count := 0
		for other, name := range marked {
			if name == wanted[at] || name == marked[at] && other < at {
				count++
			}
		}
		if wanted[at] != "" && count == 0 || marked[at] != "" && count > 0 {
			label = at
		}
	}
	switch {
	case long >= 0:
		return s, answer{api.ErrPattern, long}
	case label >= 0:
		return s, answer{api.ErrLabel, label}
	}
	return s, answer{api.OK, 0}
}

func TestPatternsAndLabelsOfMadeScripts(t *testing.T) {
	chance := rand.New(rand.NewSource(6))
	met := map[api.Errno]int{}
	for range 20000 {
		s, want := madeScript(chance)
		wantCheck(t, s, want)
		met[want.errno]++
	}
	if met[api.OK] < 1000 || met[api.ErrPattern] < 1000 || met[api.ErrLabel] < 1000 {
		t.Errorf("too few of a kind: %v", met)
	}
}

func TestCheckOfAnyBytes(t *testing.T) {
	for b := range 256 {
		s := string([]byte{byte(b)})
		for _, ahead := range []string{"", "1", "/", "/[", "s/", "s/a/", `s/a/\`, "s/a/b/", "y/", "y/a/", `y/\`, "a", "a ", ":", "b", "{", "!", "p", "p "} {
			for _, more := range []string{"", s, "/", "/p", strings.Repeat(s, 300), "\x00\xff\n"} {
				text := ahead + s + more
				e, at := linework.Check(text)
				if at < 0 || at > len(text) || e == api.OK && at != 0 || e == api.ErrLong || e == api.ErrLimits {
					t.Errorf("P6: Check(%q) = %d, %d", text, e, at)
				}
			}
		}
		if b != '\n' {
			wantScript(t, "a "+s+"\np")
			wantScript(t, "{i x"+s+"\n}")
		}
	}
}

func TestCheckHangsOnItsArgumentAlone(t *testing.T) {
	all := append(odd(), "bxy", ":a;:a", "q x", "/"+strings.Repeat("a", 41)+"/p", "{p", `s/a/\1/`)
	first := make([]answer, len(all))
	for i, s := range all {
		first[i] = check(s)
	}
	var wait sync.WaitGroup
	for range 4 {
		wait.Go(func() {
			for i := len(all) - 1; i >= 0; i-- {
				if got := check(strings.Clone(all[i])); got != first[i] {
					t.Errorf("P2: Check(%q) = %v, then %v", all[i], first[i], got)
				}
			}
		})
	}
	wait.Wait()
}
