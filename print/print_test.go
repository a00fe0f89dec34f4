package print_test

import (
	"slices"
	"testing"

	"almoner/api"
	"almoner/parse"
	"almoner/print"
)

func sameNode(a, b api.Node) bool {
	return a.Kind == b.Kind && a.Name == b.Name && a.In == b.In && slices.Equal(a.Sets, b.Sets) && slices.Equal(a.Words, b.Words) &&
		slices.Equal(a.Redirs, b.Redirs) && slices.EqualFunc(a.Pats, b.Pats, slices.Equal) && slices.Equal(a.Kids, b.Kids)
}

// clone copies nodes with all that is in them.
func clone(l []api.Node) []api.Node {
	l = slices.Clone(l)
	for i, node := range l {
		pats := slices.Clone(node.Pats)
		for j := range pats {
			pats[j] = slices.Clone(pats[j])
		}
		l[i].Pats, l[i].Kids, l[i].Redirs = pats, slices.Clone(node.Kids), slices.Clone(node.Redirs)
		l[i].Sets, l[i].Words = slices.Clone(node.Sets), slices.Clone(node.Words)
	}
	return l
}

// nodes are those of a script that is right.
func nodes(t *testing.T, script string) []api.Node {
	t.Helper()
	l, at, err := parse.Parse(script)
	if err != api.OK {
		t.Errorf("Parse(%q): %v at %d", script, err, at)
	}
	return l
}

// wantText asks for the text of nodes, or for nothing.
func wantText(t *testing.T, l []api.Node, text string) {
	t.Helper()
	was := clone(l)
	if got := print.Print(l); got != text {
		t.Errorf("Print(%v) = %q; want %q", l, got, text)
	}
	if !slices.EqualFunc(l, was, sameNode) {
		t.Errorf("Print changed %v into %v", was, l)
	}
}

// want asks for the text of scripts, of which the first is the text itself.
func want(t *testing.T, text string, scripts ...string) {
	t.Helper()
	l := nodes(t, text)
	wantText(t, l, text)
	for _, s := range scripts {
		other := nodes(t, s)
		if !slices.EqualFunc(l, other, sameNode) {
			t.Errorf("Parse(%q) = %v; that of %q is %v", s, other, text, l)
		}
		wantText(t, other, text)
	}
}

// wantNone asks for no text.
func wantNone(t *testing.T, lists ...[]api.Node) {
	t.Helper()
	for _, l := range lists {
		wantText(t, l, "")
	}
}

// cmd is a simple command of words alone, and of a node of a kind with kids.
func cmd(words ...string) api.Node { return api.Node{Kind: api.NCmd, Words: words} }

func of(kind int, kids ...int) api.Node { return api.Node{Kind: kind, Kids: kids} }

func list(l ...api.Node) []api.Node { return l }

func TestExamples(t *testing.T) {
	want(t, "if a; then b; elif c; then d; fi >f", "if a\nthen b\nelif c;then d\nfi>f")
	want(t, "a & b", "a&b")
	want(t, "{ a & }", "{ a&\n}")
	wantText(t, list(cmd("a"), of(api.NBack, 0), cmd("b"), of(api.NSeq, 1, 2)), "a & b")
	wantText(t, list(cmd("a"), of(api.NBack, 0), of(api.NSeq, 1), of(api.NGroup, 2)), "{ a & }")
	wantText(t, list(cmd("a"), cmd("b"), cmd("c"), cmd("d"), of(api.NIf, 2, 3), api.Node{Kind: api.NIf, Redirs: []api.Redir{{Fd: -1, Op: ">", Word: "f"}}, Kids: []int{0, 1, 4}}), "if a; then b; elif c; then d; fi >f")
}

func TestCommands(t *testing.T) {
	want(t, "a", "a;", "\n a # b\n", "\\\na\n\n", "#\na")
	want(t, "a b c", "a\tb   c", "a b \\\n c", " a b c;\n")
	want(t, "x=1", "x=1;", " x=1\n")
	want(t, "x=1 y= a z=2", "x=1\ty=  a z=2", "x=1 y= a z=2 #")
	want(t, "x=1 y=2 a b >f 2<g", ">f x=1 2<g y=2 a b", "x=1 >f y=2 a 2<g b", "x=1 y=2 a b > f 2< g")
	want(t, "x=1 >f", ">f x=1", "x=1>f")
	want(t, "a >f", ">f a", "a>f", ">\tf a", "a>\\\nf")
	want(t, "a 2 >f", "a 2 > f", "a >f 2", ">f a 2")
	want(t, "a 2>f", "a 2> f", "2>f a", "2>f a;")
	want(t, ">f", "> f", "\n>f\n")
	want(t, "in", " in;")
	want(t, "in a", "in\ta")
	want(t, "a if then fi } ! { x=1", "a if then fi } ! {\tx=1")
	want(t, "'a b' \"c d\" $(e; f) \\g `h | i` ${j} $((1 + 2)) k'l'm", " 'a b'  \"c d\"\t$(e; f) \\g `h | i` ${j} $((1 + 2)) k'l'm")
	want(t, "a\\\nb 'c\nd' e#f", "a\\\nb   'c\nd' e#f #g")
	want(t, "a \xff\x00\x80", "a  \xff\x00\x80")
	wantText(t, list(cmd("a")), "a")
	wantText(t, list(api.Node{Kind: api.NCmd, Sets: []string{"x=1"}}), "x=1")
	wantText(t, list(api.Node{Kind: api.NCmd, Sets: []string{"x=1", "y=2"}, Words: []string{"a", "b"}, Redirs: []api.Redir{{Fd: -1, Op: "<", Word: "f"}, {Fd: 0, Op: ">>", Word: "g"}}}), "x=1 y=2 a b <f 0>>g")
	// What is empty may be nil or not.
	wantText(t, list(api.Node{Kind: api.NCmd, Sets: []string{}, Words: []string{"a"}, Redirs: []api.Redir{}, Pats: [][]string{}, Kids: []int{}}), "a")
}

func TestRedirs(t *testing.T) {
	for _, op := range []string{"<", ">", ">>", "<&", ">&", "<>", ">|"} {
		want(t, op+"f", op+" f")
		want(t, "a "+op+"f", "a"+op+"f", op+"f a")
		want(t, "a b "+op+"f", "a "+op+" f b")
		want(t, "( a ) "+op+"f", "(a)"+op+"f")
		for fd := range 10 {
			digit := string([]byte{'0' + byte(fd)})
			want(t, digit+op+"f", digit+op+"\tf")
			want(t, "a "+digit+op+"f", "a "+digit+op+" f", digit+op+"f a")
			want(t, "a "+digit+" "+op+"f", "a "+op+"f "+digit)
			want(t, "( a ) "+digit+op+"f", "(a)"+digit+op+"f")
			// A digit right ahead of another one is the word.
			want(t, op+digit+" >g", op+digit+">g")
			want(t, "a "+op+digit+" 3>g", "a"+op+digit+" 3>g")
			want(t, "{ a; } "+op+digit+" >g", "{ a;}"+op+digit+">g")
			wantText(t, list(api.Node{Kind: api.NCmd, Redirs: []api.Redir{{Fd: fd, Op: op, Word: digit}}}), digit+op+digit)
		}
		for _, word := range []string{"'f g'", "$(f g)", "x=1", "if", "}", "in", "!", "-", "12", "`f`", "\\&\\\n"} {
			want(t, "a "+op+word+" <b", op+" "+word+"<b a")
		}
	}
	want(t, "a 12 >f", "a 12>f")
	want(t, "a >f >f 2>&1 <&-", "a>f>f 2>&1<&-")
}

func TestPipesAndItems(t *testing.T) {
	want(t, "! a", "!\ta", "! a\n")
	want(t, "a | b", "a|b", "a |\n\nb;")
	want(t, "a | b | c", "a|b|\nc")
	want(t, "! a | b", "! a|b")
	want(t, "a && b", "a&&b", "a &&\n\nb")
	want(t, "a || b", "a||b", "a ||#c\nb")
	want(t, "a && b || c && d", "a&&b||c&&d", "a &&\nb ||\nc &&\nd")
	want(t, "! a && ! b | c || d", "! a&&! b|c||d")
	want(t, "x=1 | >f | a >g", "x=1|>f|>g a")
	want(t, "{ a; } | ( b ) && f() { c; }", "{ a;}|(b)&&f(){ c;}")
	want(t, "! ( a )", "! (a)")
	want(t, "a 2 | b", "a 2|b")
	want(t, "a >2 | b", "a>2|b")
	wantText(t, list(cmd("a"), of(api.NNot, 0)), "! a")
	wantText(t, list(cmd("a"), cmd("b"), cmd("c"), of(api.NPipe, 0, 1, 2)), "a | b | c")
	wantText(t, list(cmd("a"), cmd("b"), of(api.NAnd, 0, 1)), "a && b")
	wantText(t, list(cmd("a"), cmd("b"), of(api.NOr, 0, 1)), "a || b")
	wantText(t, list(cmd("a"), cmd("b"), of(api.NOr, 0, 1), cmd("c"), of(api.NNot, 3), of(api.NAnd, 2, 4)), "a || b && ! c")
}

func TestSequences(t *testing.T) {
	want(t, "a; b", "a;b", "a\nb", "a;\n\nb;", "a\n\n\nb\n")
	want(t, "a; b; c; d", "a;b\nc;\nd")
	want(t, "a &", "a&", "a&\n\n", "\na & #b")
	want(t, "a & b &", "a&b&", "a &\nb &\n")
	want(t, "a & b", "a&b", "a &\n\nb;", "a& b\n")
	want(t, "a; b &", "a;b&", "a\nb&\n")
	want(t, "a; b & c; d & e & f", "a;b&c\nd&\ne&f;")
	want(t, "! a | b && c & x=1; >f & d", "! a|b&&c& x=1;>f&d")
	want(t, "a >2 & b", "a>2&b")
	want(t, "a >2; b", "a>2;b")
	wantText(t, list(cmd("a"), cmd("b"), of(api.NSeq, 0, 1)), "a; b")
	wantText(t, list(cmd("a"), of(api.NBack, 0), of(api.NSeq, 1)), "a &")
	wantText(t, list(cmd("a"), cmd("b"), of(api.NBack, 1), cmd("c"), of(api.NSeq, 0, 2, 3)), "a; b & c")
}

func TestGroupsAndSubs(t *testing.T) {
	want(t, "{ a; }", "{ a\n}", "{ a;}", "{\n\na;\n}\n")
	want(t, "{ a; b; }", "{ a\nb\n}", "{ a;b;\n\n}")
	want(t, "{ a; b & }", "{ a;b&}", "{ a\nb &\n}")
	want(t, "{ a & b; }", "{ a&b;}")
	want(t, "{ a & }", "{ a&}")
	want(t, "{ a && b & }", "{ a&&b&}")
	want(t, "{ x=1; }", "{ x=1 }", "{ x=1\n}")
	want(t, "{ >f; }", "{ >f }", "{ >f;}")
	want(t, "{ a }; }", "{ a }\n}")
	want(t, "{ a >}; } >}", "{ a >}\n}>}")
	want(t, "{ { a; }; }", "{ { a;} }", "{ { a;};}")
	want(t, "{ ( a ); }", "{ (a)}")
	want(t, "{ a; } >f 2>&1", "{ a;}>f 2>&1")
	want(t, "{ { a; } >f; } 3<g", "{ { a;}>f } 3<g")
	want(t, "( a )", "(a)", "(\na;\n)", "( a;)")
	want(t, "( a; b )", "(a;b)", "(a\nb\n)")
	want(t, "( a & )", "(a&)", "(a &\n)")
	want(t, "( a & b )", "(a&b;)")
	want(t, "( a; b & )", "(a;b&)")
	want(t, "( ( a ) )", "((a))", "( (a) )")
	want(t, "( x=1 )", "(x=1)")
	want(t, "( a }; b ) >f", "(a }\nb)>f")
	want(t, "( a >2 ) >f <g", "(a>2)>f<g")
	want(t, "( a 2 ) 2>f", "(a 2)2>f")
	wantText(t, list(cmd("a"), of(api.NGroup, 0)), "{ a; }")
	wantText(t, list(cmd("a"), of(api.NSub, 0)), "( a )")
	wantText(t, list(cmd("a"), of(api.NSub, 0), of(api.NGroup, 1), of(api.NSub, 2)), "( { ( a ); } )")
}

func TestIf(t *testing.T) {
	want(t, "if a; then b; fi", "if a\nthen b\nfi", "if\na;then\n\nb\n\nfi;")
	want(t, "if a & then b & fi", "if a&then b&fi", "if a&\nthen b&\nfi")
	want(t, "if a; b & then c & d; fi", "if a;b&then c&d\nfi")
	want(t, "if a; then b; else c; fi", "if a\nthen b\nelse c\nfi", "if a;then b;else\n\nc;fi")
	want(t, "if a; then b; else c & fi", "if a;then b;else c&fi")
	want(t, "if x=1; then >f; else y=2; fi", "if x=1 then >f else y=2 fi")
	want(t, "if a; then b; elif c; then d; fi", "if a;then b;else if c;then d;fi;fi", "if a;then b;else\nif c;then d;fi\nfi", "if a;then b;elif c;then d;fi", "if a; then b; else if c; then d; fi fi")
	want(t, "if a; then b; elif c & then d & fi", "if a;then b;elif c&then d&fi", "if a;then b;else if c&then d&fi fi")
	want(t, "if a; then b; elif c; then d; else e; fi", "if a;then b;elif c;then d;else e;fi", "if a;then b;else if c;then d;else e;fi;fi")
	want(t, "if a; then b; elif c; then d; elif e; then f; else g; fi >h", "if a;then b;else if c;then d;elif e;then f;else g;fi;fi >h", "if a;then b;elif c;then d;else if e;then f;else g;fi;fi >h")
	// These are no elif: it can't have redirs, nor be one of several items.
	want(t, "if a; then b; else if c; then d; fi >f; fi", "if a;then b;else if c;then d;fi>f;fi")
	want(t, "if a; then b; else if c; then d; fi >f; fi <g", "if a;then b;else if c;then d;fi>f\nfi<g")
	want(t, "if a; then b; else if c; then d; fi; e; fi", "if a;then b;else if c;then d;fi\ne;fi")
	want(t, "if a; then b; else if c; then d; fi & fi", "if a;then b;else if c;then d;fi& fi")
	want(t, "if a; then b; else ! if c; then d; fi; fi", "if a;then b;else ! if c;then d;fi fi")
	want(t, "if a; then b; else if c; then d; fi && e; fi", "if a;then b;else if c;then d;fi&&e;fi")
	want(t, "if a; then b; else { if c; then d; fi; }; fi", "if a;then b;else { if c;then d;fi;} fi")
	want(t, "if a; then if b; then c; fi; fi", "if a;then if b;then c;fi fi")
	want(t, "if if a; then b; fi; then c; fi", "if if a;then b;fi then c;fi")
	want(t, "if a; then b; elif c; then d; else if e; then f; fi >g; fi", "if a;then b;elif c;then d;else if e;then f;fi>g;fi")
	want(t, "if a; then b; fi >f 2<g", "if a;then b;fi>f 2<g")
	want(t, "if ( a ); then { b; }; else ( c ); fi", "if (a)then { b;} else (c)fi")
	want(t, "if a then b; then c fi; fi", "if a then b\nthen c fi\nfi")
	wantText(t, list(cmd("a"), cmd("b"), of(api.NIf, 0, 1)), "if a; then b; fi")
	wantText(t, list(cmd("a"), cmd("b"), cmd("c"), of(api.NIf, 0, 1, 2)), "if a; then b; else c; fi")
	wantText(t, list(cmd("a"), cmd("b"), cmd("c"), cmd("d"), cmd("e"), of(api.NIf, 2, 3, 4), of(api.NIf, 0, 1, 5)), "if a; then b; elif c; then d; else e; fi")
}

func TestLoops(t *testing.T) {
	for _, word := range []string{"while", "until"} {
		want(t, word+" a; do b; done", word+" a\ndo b\ndone", word+"\na;do\n\nb;done;")
		want(t, word+" a & do b & done", word+" a&do b&done")
		want(t, word+" a; b & do c & d; done", word+" a\nb&do c&d\ndone")
		want(t, word+" x=1; do >f; done >g", word+" x=1 do >f done>g")
		want(t, word+" ( a ); do "+word+" b; do c; done; done 2>f", word+" (a)do "+word+" b;do c;done done 2>f")
	}
	wantText(t, list(cmd("a"), cmd("b"), of(api.NWhile, 0, 1)), "while a; do b; done")
	wantText(t, list(cmd("a"), cmd("b"), of(api.NUntil, 0, 1)), "until a; do b; done")
	want(t, "for x; do a; done", "for x do a;done", "for x\ndo a\ndone", "for x;do a;done", "for x\n;\n\ndo\na;done")
	want(t, "for x in; do a; done", "for x in;do a;done", "for x in\ndo a;done", "for x\nin;\n\ndo a\ndone")
	want(t, "for x in a; do b; done", "for x in a\ndo b;done")
	want(t, "for x in a 'b c' do done 2 x=1; do d & done >f", "for x\n\nin a  'b c' do done 2 x=1\n\ndo d&done>f")
	want(t, "for in in in; do in; done", "for in\nin in\ndo in;done")
	want(t, "for do; do a; done", "for do do a;done")
	want(t, "for x; do x=1; done", "for x do x=1 done")
	want(t, "for x; do for y in a; do b; done; done", "for x do for y in a;do b;done done")
	wantText(t, list(cmd("a"), api.Node{Kind: api.NFor, Name: "x", Kids: []int{0}}), "for x; do a; done")
	wantText(t, list(cmd("a"), api.Node{Kind: api.NFor, Name: "x", In: true, Kids: []int{0}}), "for x in; do a; done")
	wantText(t, list(cmd("a"), api.Node{Kind: api.NFor, Name: "x", In: true, Words: []string{"b", "c"}, Kids: []int{0}}), "for x in b c; do a; done")
}

func TestCases(t *testing.T) {
	want(t, "case a in esac", "case a\nin\n\nesac", "case a in esac;")
	want(t, "case a in (b) c;; esac", "case a in b)c;;esac", "case a in (b)c\nesac", "case a in\nb)\nc;\n;;\n\nesac", "case a in b) c; esac")
	want(t, "case a in (b);; esac", "case a in b)esac", "case a in (b)\n;;\nesac", "case a in b) ;; esac")
	want(t, "case a in (b | c | d) e;; esac", "case a in b|c|d)e;;esac")
	want(t, "case a in (b) c;; (d);; (e) f;; esac", "case a in b)c;;d);;e)f;esac")
	want(t, "case a in (b);; (c);; esac", "case a in b);;(c)esac")
	want(t, "case a in (b) c &;; (d) e & f;; (g) h; i &;; esac", "case a in b)c&;;d)e&f\n;;g)h\ni&\nesac")
	want(t, "case a in (b) ( c );; (d) { e; };; esac", "case a in b)(c);;d){ e;};;esac", "case a in b) (c) ;; d) { e;} esac")
	want(t, "case a in (b) c >2;; esac >f 2>g", "case a in b)c>2;;esac>f 2>g")
	want(t, "case in in (in) in;; esac", "case in in in)in;;esac", "case in\nin\n(in)in;;esac")
	want(t, "case esac in (esac | esac) a;; (b | esac);; esac", "case esac in (esac|esac)a;;b|esac)esac")
	want(t, "case 'a b' in ('c d' | 2 | x=1 | if) e;; esac", "case 'a b' in 'c d'|2|x=1|if)e;;esac")
	want(t, "case a in (b) case c in (d);; esac;; esac", "case a in b)case c in d)esac esac")
	want(t, "case a in (b) x=1;; (c) >f;; esac", "case a in b)x=1;;c)>f esac")
	want(t, "case a in (b) if c; then d; fi;; esac", "case a in b)if c;then d;fi esac")
	match := api.Node{Kind: api.NCase, Words: []string{"a"}}
	wantText(t, list(match), "case a in esac")
	match.Pats, match.Kids = [][]string{{"b", "c"}}, []int{-1}
	wantText(t, list(match), "case a in (b | c);; esac")
	match.Pats, match.Kids = [][]string{{"b"}, {"c"}, {"d"}, {"e"}}, []int{0, -1, 1, -1}
	wantText(t, list(cmd("x"), cmd("y"), match), "case a in (b) x;; (c);; (d) y;; (e);; esac")
}

func TestFunctions(t *testing.T) {
	want(t, "f() { a; }", "f(){ a;}", "f ( )\n\n{\na\n}")
	want(t, "f() { a; } >g", "f(){ a;}>g")
	want(t, "f() ( a & )", "f()(a&)")
	want(t, "f() if a; then b; fi", "f()if a;then b;fi")
	want(t, "f() while a; do b; done", "f()\nwhile a;do b;done")
	want(t, "f() until a; do b; done", "f()\nuntil a;do b;done")
	want(t, "f() for x; do a; done", "f() for x do a;done")
	want(t, "f() case a in esac", "f()\ncase a in esac")
	want(t, "f() { g() ( a ); }", "f() { g() (a) }")
	want(t, "{ f() ( a ); }", "{ f() (a)}")
	want(t, "f() { a; } & _1() ( b ); c", "f(){ a;}&_1()(b)\nc")
	want(t, "! f() { a; } | g() { b; } && c", "! f(){ a;}|g(){ b;}&&c")
	wantText(t, list(cmd("a"), of(api.NGroup, 0), api.Node{Kind: api.NFunc, Name: "f", Kids: []int{1}}), "f() { a; }")
}

// TestOften asks for the same text again, whatever was printed between, and in an order of its own.
func TestOften(t *testing.T) {
	scripts := []string{"a & b", "{ a; }", "case a in (b) c;; esac", "if a; then b; elif c; then d; fi", "a", "f() { a; } >f"}
	for range 3 {
		slices.Reverse(scripts)
		for i, s := range scripts {
			want(t, s)
			wantNone(t, list(of(i)))
		}
	}
}
