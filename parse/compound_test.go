package parse_test

import "testing"

func TestGroups(t *testing.T) {
	a, b, c := cmd("a"), cmd("b"), cmd("c")
	for _, s := range []string{"{ a;}", "{ a\n}", "{ a; }", "{\na;\n\n}", "{ \n\n a \n }", "{ a # b\n}", "\n{ a; };\n", "{\t\\\na;}"} {
		want(t, s, group(a))
	}
	want(t, "{ a;b; }", group(seq(a, b)))
	want(t, "{ a& }", group(seq(back(a))))
	want(t, "{ a&b& }", group(seq(back(a), back(b))))
	want(t, "{ a&\nb\n}&c", seq(back(group(seq(back(a), b))), c))
	want(t, "{ { a; } }", group(group(a)))
	want(t, "{ { a; }; }", group(group(a)))
	want(t, "{ (a) }", group(sub(a)))
	want(t, "{ (a)>f }", group(sub(a).to(-1, ">", "f")))
	want(t, "{ a | (b) }", group(pipe(a, sub(b))))
	want(t, "{ a; } | b && { c; }", and(pipe(group(a), b), group(c)))
	// Behind a word a `}` is a word, and so it is behind the operator of a redir.
	want(t, "{ a }; }", group(cmd("a", "}")))
	want(t, "{ a }\n b } } }\n}", group(seq(cmd("a", "}"), cmd("b", "}", "}", "}"))))
	want(t, "{ >} }", group(cmd().to(-1, ">", "}")))
	want(t, "{ a > } }; }", group(cmd("a", "}").to(-1, ">", "}")))
	// Behind sets and redirs alone it can't be the first word, and ends the list.
	want(t, "{ x=1 }", group(cmd().set("x=1")))
	want(t, "{ >f }", group(cmd().to(-1, ">", "f")))
	want(t, "{ a; x=1 2>f y= }", group(seq(a, cmd().set("x=1", "y=").to(2, ">", "f"))))
	want(t, "{ x=1 } >g", group(cmd().set("x=1")).to(-1, ">", "g"))
	want(t, "{a", cmd("{a"))
	want(t, "{}", cmd("{}"))
	wantMore(t, "{", "{\n", "{ a", "{ a;", "{ a }", "{ a; b }", "{ { a; }", "{ (a)", "{ a&", "{ x=1", "{ >}", "{ a >} }", "{ a; } | {", "{ a;\n\n")
	wantForm(t, "@}", "{ @}", "{ @; }", "{ @& }", "{\n@}", "{ @) }", "{ a; @)", "{ a@)", "{ a@;; }", "{ a; @; }", "{ a; } @}", "{ a; } @b", "{ a; } @{ b; }", "{ a; } @(b)", "{ a; }@(b)", "{ a; } @x=1", "{ a; } @!",
		"{ (a) @b; }", "{ (a) @{ b; } }", "{ a; } >f @b", "{ @then", "{ a; @done", "{ ! @}", "{ a | @}", "{ a && @}", "{a; @}", "{ a; }; @;")
}

func TestSubs(t *testing.T) {
	a, b, c := cmd("a"), cmd("b"), cmd("c")
	for _, s := range []string{"(a)", "( a )", "(a;)", "(a\n)", "(\n\na;\n)", "\n( a # )\n)\n", "\\\n(a)"} {
		want(t, s, sub(a))
	}
	want(t, "(a;b)", sub(seq(a, b)))
	want(t, "(a&)", sub(seq(back(a))))
	want(t, "(a&b)&c", seq(back(sub(seq(back(a), b))), c))
	want(t, "((a))", sub(sub(a)))
	want(t, "((a);(b))", sub(seq(sub(a), sub(b))))
	want(t, "({ a; })", sub(group(a)))
	want(t, "(a)|(b)&&(c)", and(pipe(sub(a), sub(b)), sub(c)))
	want(t, "(a b });{ (c) }", seq(sub(cmd("a", "b", "}")), group(sub(c))))
	want(t, "(a>f)<g", sub(cmd("a").to(-1, ">", "f")).to(-1, "<", "g"))
	want(t, "(x=1)", sub(cmd().set("x=1")))
	wantMore(t, "(", "(a", "(a;", "((a)", "(a|", "(\n", "(a)&&(", "(a&&b", "(a&")
	wantForm(t, "@)", "(@)", "( @)", "(\n@)", "(@;)", "(a; @;)", "(a@;;)", "(a)@)", "(a) @b", "(a)@(b)", "(a) @{ b; }", "(a;@}", "(@})", "(a|@)", "(a&&\n@)", "(! @)", "(a)>f @b", "(a) @x=1", "(@fi)", "(a; @fi)", "(a)@;;", "(a) @fi")
}

func TestIf(t *testing.T) {
	a, b, c, d, e := cmd("a"), cmd("b"), cmd("c"), cmd("d"), cmd("e")
	for _, s := range []string{"if a; then b; fi", "if a\nthen b\nfi", "if\na;\n\nthen\n\nb;\nfi", "if a # b\nthen b # fi\nfi;"} {
		want(t, s, choice(a, b))
	}
	want(t, "if a; then b; else c; fi", choice(a, b, c))
	want(t, "if a\nthen b\nelse\nc\nfi\n", choice(a, b, c))
	want(t, "if a; then b; elif c; then d; fi", choice(a, b, choice(c, d)))
	want(t, "if a; then b; elif c; then d; else e; fi", choice(a, b, choice(c, d, e)))
	want(t, "if a; then b; elif c; then d; elif e; then a; elif b; then c; else d; fi", choice(a, b, choice(c, d, choice(e, a, choice(b, c, d)))))
	want(t, "if a\nthen b\nelif c\nthen d\nelif e\nthen a\nfi", choice(a, b, choice(c, d, choice(e, a))))
	// An `else` with an `if` of its own is the same but for its redirs and the second `fi`.
	want(t, "if a; then b; else if c; then d; fi; fi", choice(a, b, choice(c, d)))
	want(t, "if a; then b; else if c; then d; fi >f; fi", choice(a, b, choice(c, d).to(-1, ">", "f")))
	want(t, "if a; then b; elif c; then d; fi >f", choice(a, b, choice(c, d)).to(-1, ">", "f"))
	want(t, "if a&then b&elif c&then d&else e&fi", choice(seq(back(a)), seq(back(b)), choice(seq(back(c)), seq(back(d)), seq(back(e)))))
	want(t, "if a;b\nthen c;d;else e;a;fi", choice(seq(a, b), seq(c, d), seq(e, a)))
	want(t, "if (a) then (b) elif (c) then (d) else (e) fi", choice(sub(a), sub(b), choice(sub(c), sub(d), sub(e))))
	want(t, "if ! a && b | c; then d; fi", choice(and(not(a), pipe(b, c)), d))
	want(t, "if if a; then b; fi then c; fi", choice(choice(a, b), c))
	want(t, "if a; then if b; then c; fi else d; fi", choice(a, choice(b, c), d))
	want(t, "if a then; then b else; fi", choice(cmd("a", "then"), cmd("b", "else")))
	want(t, "if x=1 then >f elif y=2 then <g else 3>h fi", choice(cmd().set("x=1"), cmd().to(-1, ">", "f"), choice(cmd().set("y=2"), cmd().to(-1, "<", "g"), cmd().to(3, ">", "h"))))
	wantMore(t, "if", "if a", "if a;", "if a; then", "if a; then b", "if a; then b;", "if a; then b; else", "if a; then b; else c;", "if a; then b; elif", "if a; then b; elif c;", "if a; then b; elif c; then", "if a; then b; elif c; then d;",
		"if a; then b; elif c; then d; else e;", "if a then b", "if a; then b fi", "if (a) then (b)", "if a; then if b; then c; fi")
	wantForm(t, "if @;", "if @then", "if a; @fi", "if a then b; @fi", "if a; @else", "if a; @elif", "if a; @do", "if a; then @fi", "if a; then @else", "if a; then @elif", "if a; then b; @then", "if a; then b; @done", "if a; then b; @}", "if a; then b; else @fi", "if a; then b; else c; @else",
		"if a; then b; else c; @elif", "if a; then b; elif @then", "if a; then b; elif c; @fi", "if a; then b; elif c; @else", "if a; then b; elif c; @elif", "if a; then b; elif c; then @fi", "if a; then b; elif c; then d; else e; @elif", "if a; then b; fi @fi",
		"if a; then b; fi @c", "if a@)", "if a; then b@)", "if a; then b@;; fi", "if a@;;", "if (a) @b", "if (a) @fi", "if a; @; then", "if a; then @; b", "if a; then b; else @; c", "if a; then b; (c)@;; fi")
}

func TestLoops(t *testing.T) {
	a, b, c := cmd("a"), cmd("b"), cmd("c")
	for word, loop := range map[string]func(a, b *tree) *tree{"while": while, "until": until} {
		for _, s := range []string{" a; do b; done", " a\ndo b\ndone", "\na;\n\ndo\n\nb\ndone", " a # do\ndo b # done\ndone\n", " a;do b;done;"} {
			want(t, word+s, loop(a, b))
		}
		want(t, word+" a;b\ndo c&a\ndone", loop(seq(a, b), seq(back(c), a)))
		want(t, word+" a&do b&done&", seq(back(loop(seq(back(a)), seq(back(b))))))
		want(t, word+" (a) do (b) done", loop(sub(a), sub(b)))
		want(t, word+" ! a|b;do c&&a;done >f 2>&1 <g", loop(not(pipe(a, b)), and(c, a)).to(-1, ">", "f").to(2, ">&", "1").to(-1, "<", "g"))
		want(t, word+" a; do while b; do c; done done", loop(a, while(b, c)))
		want(t, word+" until a; do b; done do c; done", loop(until(a, b), c))
		want(t, word+" a do; do b done; done", loop(cmd("a", "do"), cmd("b", "done")))
		want(t, word+" x=1 do >f done", loop(cmd().set("x=1"), cmd().to(-1, ">", "f")))
		want(t, word+" a; do b; done | c", pipe(loop(a, b), c))
		for _, s := range []string{"", " a", " a;", " a; do", " a; do\n", " a; do b", " a; do b;", " a do b", " a; do b done", " (a) do (b)"} {
			wantMore(t, word+s)
		}
		for _, s := range []string{" @;", " @do", " @done", " a; @done", " a do b; @done", " a; @then", " a; @fi", " a; @}", " a; do @done", " a; do @do", " a; do b; @do", " a; do b; @fi", " a; do b; @esac", " a; do b; done @done", " a; do b; done @c", " a; do b; done @(c)", " a@)", " a; do b@)", " a; do b@;; done", " a@;;", " (a) @b", " a; @; do", " a; do @; b; done", " a\n@;do", " a; do b; done >f @x=1"} {
			wantForm(t, word+s)
		}
	}
}

func TestFor(t *testing.T) {
	a, b, c := cmd("a"), cmd("b"), cmd("c")
	for _, s := range []string{"for x do a; done", "for x; do a; done", "for x\ndo a\ndone", "for x;\n\ndo a\n done", "for x\n\n;\n\ndo\n\na;\n\ndone\n", "for x # in b\ndo a\ndone", "for x\n; do a; done;"} {
		want(t, s, each("x", a))
	}
	for _, s := range []string{"for x in; do a; done", "for x in\ndo a\ndone", "for x\nin\n\ndo a; done", "for x\n\n in ;\n\ndo\na;done", "for x in # b\ndo a;done"} {
		want(t, s, among("x", a))
	}
	for _, s := range []string{"for x in b c; do a; done", "for x in b c\ndo a\ndone", "for x\nin b c\n\ndo a\ndone", "for x\n\n\nin b c;\n\n\ndo\n\na\n\ndone", "for x in b\tc;do a;done"} {
		want(t, s, among("x", a, "b", "c"))
	}
	want(t, "for x in b 1 2 x=1 'c d' $(e;f) do done in } ! {; do a; done", among("x", a, "b", "1", "2", "x=1", "'c d'", "$(e;f)", "do", "done", "in", "}", "!", "{"))
	want(t, "for x in in in; do in in; done", among("x", cmd("in", "in"), "in", "in"))
	want(t, "for x in b; do a;b&c;done", among("x", seq(a, back(b), c), "b"))
	want(t, "for x do (a) done", each("x", sub(a)))
	want(t, "for x do y=1 done", each("x", cmd().set("y=1")))
	want(t, "for x do a; done >f <g&", seq(back(each("x", a).to(-1, ">", "f").to(-1, "<", "g"))))
	want(t, "for x do for y in b; do a; done done", each("x", among("y", a, "b")))
	want(t, "for x do a; done | for y do b; done", pipe(each("x", a), each("y", b)))
	for _, name := range []string{"_", "x1", "aZ_09", "Z", "in", "do", "done", "for", "if", "while", "esac"} {
		want(t, "for "+name+" do a; done", each(name, a))
		want(t, "for "+name+" in "+name+"; do a; done", among(name, a, name))
		want(t, "for "+name+"\nin\ndo a; done", among(name, a))
		want(t, "for "+name+"; do a; done", each(name, a))
	}
	for _, name := range []string{"1", "1x", "x=1", "x=", "'x'", "$x", "x.y", "-", "!", "{", "}", "x-1", "\\x", "\u00e9", "x\\\n", "x''", "x$", "x\x00"} {
		wantForm(t, "for @"+name, "for @"+name+" in a; do b; done", "a; for @"+name+"; do b; done")
	}
	wantMore(t, "for", "for x", "for x\n", "for x;", "for x;\n", "for x in", "for x in a", "for x in a do b", "for x in a;", "for x in a\n", "for x in a; do", "for x in a; do b", "for x in a; do b;", "for x in a; do b done", "for x do", "for x do a", "for x do a;", "for x\n\nin")
	wantForm(t, "for @\nx do a; done", "for @;", "for @(x)", "for @>f", "for x @a", "for x @x in a", "for x @then", "for x @{ a; }", "for x; @in a; do b; done", "for x; @; do b; done", "for x;\n@; do b; done", "for x\n;\n@in a; do b; done", "for x; @done", "for x @&", "for x @| a", "for x @>f",
		"for x in a @& do b; done", "for x in a @| b", "for x in a@&& b", "for x in a@) do", "for x in @>f; do a; done", "for x in a @2>f; do b; done", "for x in @1<f", "for x in a@;; do b; done", "for x in a @(b)", "for x in a; @; do b; done", "for x in a\n@; do b; done", "for x in a; @b", "for x in a; @done", "for x in a; @in",
		"for x in a; do @done", "for x in a; do @do", "for x in a; do b; @do", "for x do @; a; done", "for x do a; @fi", "for x do a; @}", "for x do a; done @b", "for x do a; done @done", "for x do a@)", "for x do @)", "for x do a; done@()", "for @1>f", "for x @1>f")
}

func TestCase(t *testing.T) {
	b, c, d := cmd("b"), cmd("c"), cmd("d")
	for _, s := range []string{"case a in esac", "case a in\nesac", "case a\nin\n\nesac", "case a\n\n in esac;\n", "case a # in b\nin # c\nesac"} {
		want(t, s, match("a"))
	}
	for _, s := range []string{"case a in p) b;; esac", "case a in p) b; esac", "case a in (p) b;;esac", "case a in\np)\nb\n;;\nesac", "case a in p ) b\nesac", "case a\nin\n(p)\n\nb;\n\n;;\n\nesac", "case a in p)b;\nesac", "case a in ( p ) b ;; esac", "case a in p) # q\nb # c\n;; # d\nesac"} {
		want(t, s, match("a").item(b, "p"))
	}
	for _, s := range []string{"case a in p) ;; esac", "case a in p);;esac", "case a in p) esac", "case a in p)\nesac", "case a in (p)\n\n;;\n\nesac", "case a in (p)esac"} {
		want(t, s, match("a").item(nil, "p"))
	}
	for _, s := range []string{"case a in p|q|r) b;; esac", "case a in (p | q | r) b;; esac", "case a in\np|q |r)b;;\nesac"} {
		want(t, s, match("a").item(b, "p", "q", "r"))
	}
	want(t, "case a in p) b;; q) c;; esac", match("a").item(b, "p").item(c, "q"))
	want(t, "case a in p) b;; q) c\nesac", match("a").item(b, "p").item(c, "q"))
	want(t, "case a in p) ;; (q|r) c;; s) esac", match("a").item(nil, "p").item(c, "q", "r").item(nil, "s"))
	want(t, "case a in p) b;;\n\nq)\n;;\n(r)\nd\n;;\n\nesac", match("a").item(b, "p").item(nil, "q").item(d, "r"))
	want(t, "case a in p) b;c&;; q) d&esac", match("a").item(seq(b, back(c)), "p").item(seq(back(d)), "q"))
	want(t, "case a in p) b&&c|d;; q) ! b;; esac", match("a").item(and(b, pipe(c, d)), "p").item(not(b), "q"))
	want(t, "case a in p) (b) esac", match("a").item(sub(b), "p"))
	want(t, "case a in p) x=1 esac", match("a").item(cmd().set("x=1"), "p"))
	want(t, "case a in p) >f esac >g", match("a").item(cmd().to(-1, ">", "f"), "p").to(-1, ">", "g"))
	want(t, "case a in p) b esac;; esac", match("a").item(cmd("b", "esac"), "p"))
	want(t, "case a in p) case b in q) c;; esac;; esac", match("a").item(match("b").item(c, "q"), "p"))
	want(t, "case a in p) case b in q) c; esac esac", match("a").item(match("b").item(c, "q"), "p"))
	want(t, "case a in p) b;; esac 2>f | c", pipe(match("a").item(b, "p").to(2, ">", "f"), c))
	// An `esac` ends it where a pattern might begin, but is one behind a `(` or a `|`.
	want(t, "case a in (esac) b;; esac", match("a").item(b, "esac"))
	want(t, "case a in esac|c", pipe(match("a"), c))
	want(t, "case a in p|esac) b;; (esac|esac) c;; esac", match("a").item(b, "p", "esac").item(c, "esac", "esac"))
	want(t, "case a in in) in;; (in|in) c;; esac", match("a").item(cmd("in"), "in").item(c, "in", "in"))
	want(t, "case in in in) b;; esac", match("in").item(b, "in"))
	want(t, "case esac in esac", match("esac"))
	want(t, "case case in case) b;; esac", match("case").item(b, "case"))
	want(t, "case x=1 in y=2|!|}) b;; esac", match("x=1").item(b, "y=2", "!", "}"))
	want(t, `case "$a b"$(c;d) in '('|\)|"|"|[a-z]*|1) b;; esac`, match(`"$a b"$(c;d)`).item(b, "'('", `\)`, `"|"`, "[a-z]*", "1"))
	wantMore(t, "case", "case a", "case a\n", "case a in", "case a in\n", "case a in p", "case a in p|", "case a in p|q", "case a in (", "case a in (p", "case a in p)", "case a in p)\n", "case a in p) b", "case a in p) b;", "case a in p) b;;", "case a in p) b;;\n", "case a in p) b esac", "case a in p);;", "case a in p) b;; q) c", "case a in (esac", "case in in", "case a in esac |")
	wantForm(t, "case @;", "case @\na in esac", "case @(a)", "case @>f", "case a @b", "case a @; in esac", "case a @esac", "case a @on esac", "case a @| b", "case a @) b", "case @2>f in esac", "case a @2>f in esac",
		"case a in @;", "case a in @;; esac", "case a in @) b;; esac", "case a in @| b", "case a in (@) b", "case a in (@(p))", "case a in (@\np) b;; esac", "case a in p@\n) b;; esac", "case a in p|@\nq) b;; esac", "case a in p @q) b;; esac", "case a in p|@) b", "case a in p| @|q", "case a in p@||q) b", "case a in (p@;", "case a in @>f) b", "case a in p@>f) b", "case a in @2>f) b", "case a in p|@2>f) b", "case a in p@;; esac", "case a in p@(q)", "case a in p@;", "case a in p @esac", "case a in esac@) b;; esac", "case a in (esac @p) b",
		"case a in p) @; esac", "case a in p) @) esac", "case a in p) @& esac", "case a in p) b; @; esac", "case a in p) b@)", "case a in p) b; @)", "case a in p) b; @}", "case a in p) b; @done", "case a in p) @fi;; esac", "case a in p) b;; @;; esac", "case a in p) b;; @; esac", "case a in p) @| b", "case a in p) b|@;; esac", "case a in p) b&&@;; esac", "case a in p) !@;; esac", "case a in p) (b) @c;; esac", "case a in p) b; esac @c", "case a in esac @esac", "case a in esac @b", "case a in esac@(b)", "case a in esac@;;", "case a in p) b;; esac@;;", "case a in p) b;; q @r", "case a in p) b;;\n@)", "case a in p) {@;; esac", "case a in p) if b@;; esac")
}

func TestFunctions(t *testing.T) {
	a, b, c := cmd("a"), cmd("b"), cmd("c")
	for _, s := range []string{"f() { a; }", "f(){ a\n}", "f ( ) { a;}", "f()\n{ a; }", "f()\n\n\n{\na\n}\n", "f()#\n{ a; };", "\\\nf() { a; }"} {
		want(t, s, fun("f", group(a)))
	}
	want(t, "f() (a)", fun("f", sub(a)))
	want(t, "f()(a)", fun("f", sub(a)))
	want(t, "f() if a; then b; fi", fun("f", choice(a, b)))
	want(t, "f() while a; do b; done", fun("f", while(a, b)))
	want(t, "f() until a; do b; done", fun("f", until(a, b)))
	want(t, "f() for x do a; done", fun("f", each("x", a)))
	want(t, "f() case a in esac", fun("f", match("a")))
	want(t, "f() { a; } >f 2>&1", fun("f", group(a).to(-1, ">", "f").to(2, ">&", "1")))
	want(t, "f()\n(a)<g", fun("f", sub(a).to(-1, "<", "g")))
	want(t, "f() { a; } && g() { b; } | c&", seq(back(and(fun("f", group(a)), pipe(fun("g", group(b)), c)))))
	want(t, "f() { g() { a; }; }", fun("f", group(fun("g", group(a)))))
	want(t, "f() { g() { a; } }", fun("f", group(fun("g", group(a)))))
	want(t, "f() (a); f b", seq(fun("f", sub(a)), cmd("f", "b")))
	for _, name := range []string{"_", "F", "f1_Z", "echo", "exit", "IF", "ifx", "fi_", "abcdefghijklmnopqrstuvwxyz_ABCDEFGHIJKLMNOPQRSTUVWXYZ0123456789"} {
		want(t, name+"() { a; }", fun(name, group(a)))
		want(t, "! "+name+" () { a; }", not(fun(name, group(a))))
	}
	for _, name := range []string{"f.g", "1f", "f-", "'f'", `\f`, "$f", "f=", "f=1", "a b", "f ''", "in", "\u00e9", "f\\\n"} {
		wantForm(t, name+"@() { a; }", name+" @()", "b; "+name+"@(")
	}
	for _, name := range []string{"}", "do", "done", "elif", "else", "esac", "fi", "then"} {
		wantForm(t, "@"+name+"() { a; }")
	}
	wantForm(t, "{ (@) { a; }", "! (@) { a; }", "for @() { a; }", "case @() { a; }", "if (@) { a; }", "while (@) { a; }", "until (@) { a; }")
	wantMore(t, "f(", "f (", "f()", "f()\n\n", "f() {", "f() { a; ", "f() { a }", "f() (a", "f() if a", "f() for", "f() { a; } >")
	wantForm(t, "f(@a) { b; }", "f(@\n) { a; }", "f(@() { a; }", "f(@;", "f() @a", "f() @;", "f() @x=1", "f() @>f { a; }", "f() @g() { a; }", "f() @!", "f() @)", "f() @in", "f() @then", "f()@;;", "f() @&", "f() @| a", "f()\n@;", "f()\n@a", "f() { @}", "f() (@)", "f() @'{' a; }", "f() { a; } @b", "f() { a; } @{ b; }", "f() { a; }@()",
		"f() @}", "f g@() { a; }", "x=1 f@() { a; }", ">f g@() { a; }", "f >g@() { a; }", "f() @1>f", "{ f() @}", "(f() @)")
}

// TestCompoundRedirs puts redirs behind each compound, and ahead of what may follow it.
func TestCompoundRedirs(t *testing.T) {
	a, b := cmd("a"), cmd("b")
	for s, make := range map[string]func() *tree{
		"{ a; }":                  func() *tree { return group(a) },
		"(a)":                     func() *tree { return sub(a) },
		"if a; then b; fi":        func() *tree { return choice(a, b) },
		"while a; do b; done":     func() *tree { return while(a, b) },
		"until a; do b; done":     func() *tree { return until(a, b) },
		"for x do a; done":        func() *tree { return each("x", a) },
		"for x in b; do a; done":  func() *tree { return among("x", a, "b") },
		"case a in esac":          func() *tree { return match("a") },
		"case a in p) b;; esac":   func() *tree { return match("a").item(b, "p") },
		"case a in (p|q) b\nesac": func() *tree { return match("a").item(b, "p", "q") },
	} {
		want(t, s+" >f", make().to(-1, ">", "f"))
		want(t, s+">f<g 2>>h 0<>i", make().to(-1, ">", "f").to(-1, "<", "g").to(2, ">>", "h").to(0, "<>", "i"))
		want(t, s+" >&1>&2", make().to(-1, ">&", "1").to(-1, ">&", "2"))
		want(t, s+" >f; b", seq(make().to(-1, ">", "f"), b))
		want(t, s+" >f&", seq(back(make().to(-1, ">", "f"))))
		want(t, "a | "+s+" >f | b", pipe(a, make().to(-1, ">", "f"), b))
		want(t, "! "+s+" >f&& b", and(not(make().to(-1, ">", "f")), b))
		want(t, "{ "+s+" >f }", group(make().to(-1, ">", "f")))
		want(t, "("+s+" >f)>g", sub(make().to(-1, ">", "f")).to(-1, ">", "g"))
		want(t, "f() "+s+" >f", fun("f", make().to(-1, ">", "f")))
		// Ahead of a reserved word no separator is needed.
		want(t, "if "+s+" then "+s+" >f else "+s+" fi", choice(make(), make().to(-1, ">", "f"), make()))
		want(t, "while "+s+" do "+s+" done", while(make(), make()))
		want(t, "case p in q) "+s+" esac", match("p").item(make(), "q"))
		wantForm(t, s+" @b", s+" >f @b", s+" >f@(b)", s+" @x=1", s+" @!", s+" >f @{ b; }", s+"@)", s+" >@;", s+" 2> @&", "f() "+s+" @b", s+" @'>' f")
		wantMore(t, s+" >", s+" 2<", s+" >f >", s+" |", s+" &&")
	}
}
