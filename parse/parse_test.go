package parse_test

import (
	"slices"
	"strings"
	"testing"

	"almoner/api"
	"almoner/parse"
)

// tree is a node with its kids. A kid that is nil stands for none.
type tree struct {
	api.Node
	kids []*tree
}

// list puts a tree behind l, each node behind its kids.
func (x *tree) list(l []api.Node) []api.Node {
	node := x.Node
	for _, kid := range x.kids {
		if kid == nil {
			node.Kids = append(node.Kids, -1)
			continue
		}
		l = kid.list(l)
		node.Kids = append(node.Kids, len(l)-1)
	}
	return append(l, node)
}

// of makes a node of its kids, and cmd one of words alone.
func of(kind int, kids ...*tree) *tree { return &tree{api.Node{Kind: kind}, kids} }
func cmd(words ...string) *tree        { return &tree{api.Node{Kind: api.NCmd, Words: words}, nil} }

func not(kid *tree) *tree            { return of(api.NNot, kid) }
func pipe(kids ...*tree) *tree       { return of(api.NPipe, kids...) }
func and(a, b *tree) *tree           { return of(api.NAnd, a, b) }
func or(a, b *tree) *tree            { return of(api.NOr, a, b) }
func seq(kids ...*tree) *tree        { return of(api.NSeq, kids...) }
func back(kid *tree) *tree           { return of(api.NBack, kid) }
func group(kid *tree) *tree          { return of(api.NGroup, kid) }
func sub(kid *tree) *tree            { return of(api.NSub, kid) }
func choice(kids ...*tree) *tree     { return of(api.NIf, kids...) }
func while(a, b *tree) *tree         { return of(api.NWhile, a, b) }
func until(a, b *tree) *tree         { return of(api.NUntil, a, b) }
func fun(name string, b *tree) *tree { return &tree{api.Node{Kind: api.NFunc, Name: name}, []*tree{b}} }

// each makes a `for` without `in`, and among one with it.
func each(name string, body *tree) *tree {
	return &tree{api.Node{Kind: api.NFor, Name: name}, []*tree{body}}
}

func among(name string, body *tree, words ...string) *tree {
	return &tree{api.Node{Kind: api.NFor, Name: name, In: true, Words: words}, []*tree{body}}
}

// match makes a `case` without items, and item adds one.
func match(word string) *tree {
	return &tree{api.Node{Kind: api.NCase, Words: []string{word}}, nil}
}

func (x *tree) item(kid *tree, pats ...string) *tree {
	x.Pats = append(x.Pats, pats)
	x.kids = append(x.kids, kid)
	return x
}

// set and to add a set and a redir.
func (x *tree) set(sets ...string) *tree {
	x.Sets = append(x.Sets, sets...)
	return x
}

func (x *tree) to(fd int, op, word string) *tree {
	x.Redirs = append(x.Redirs, api.Redir{Fd: fd, Op: op, Word: word})
	return x
}

func sameNode(a, b api.Node) bool {
	return a.Kind == b.Kind && a.Name == b.Name && a.In == b.In && slices.Equal(a.Sets, b.Sets) && slices.Equal(a.Words, b.Words) &&
		slices.Equal(a.Redirs, b.Redirs) && slices.EqualFunc(a.Pats, b.Pats, slices.Equal) && slices.Equal(a.Kids, b.Kids)
}

// want asks for the nodes of a tree.
func want(t *testing.T, s string, x *tree) {
	t.Helper()
	wantList(t, s, x.list(nil))
}

func wantList(t *testing.T, s string, nodes []api.Node) {
	t.Helper()
	l, at, err := parse.Parse(s)
	if !slices.EqualFunc(l, nodes, sameNode) || at != 0 || err != api.OK {
		t.Errorf("Parse(%q) = %v, %d, %v; want %v", s, l, at, err, nodes)
	}
}

// wantError asks for an error without any node.
func wantError(t *testing.T, s string, offset int, fault api.Errno) {
	t.Helper()
	if l, at, err := parse.Parse(s); len(l) != 0 || at != offset || err != fault {
		t.Errorf("Parse(%q) = %v, %d, %v; want none, %d, %v", s, l, at, err, offset, fault)
	}
}

// wantMore asks for ErrMore, which is always at the end.
func wantMore(t *testing.T, l ...string) {
	t.Helper()
	for _, s := range l {
		wantError(t, s, len(s), api.ErrMore)
		wantError(t, s+" \t\\\n", len(s)+4, api.ErrMore)
		wantError(t, s+" # )", len(s)+4, api.ErrMore)
	}
}

// wantForm asks for ErrForm, where the first `@` is, which is no part of the script.
func wantForm(t *testing.T, l ...string) {
	t.Helper()
	for _, s := range l {
		left, right, marked := strings.Cut(s, "@")
		if !marked {
			t.Errorf("no mark in %q", s)
		}
		wantError(t, left+right, len(left), api.ErrForm)
		wantError(t, left+right+" ) ; then |", len(left), api.ErrForm)
		wantError(t, "\n \\\n"+left+right, len(left)+4, api.ErrForm)
	}
}

func TestExamples(t *testing.T) {
	want(t, "a | b && c &", seq(back(and(pipe(cmd("a"), cmd("b")), cmd("c")))))
	wantList(t, "a | b && c &", []api.Node{{Kind: api.NCmd, Words: []string{"a"}}, {Kind: api.NCmd, Words: []string{"b"}}, {Kind: api.NPipe, Kids: []int{0, 1}},
		{Kind: api.NCmd, Words: []string{"c"}}, {Kind: api.NAnd, Kids: []int{2, 3}}, {Kind: api.NBack, Kids: []int{4}}, {Kind: api.NSeq, Kids: []int{5}}})
	want(t, "if x; then y; fi >f", choice(cmd("x"), cmd("y")).to(-1, ">", "f"))
	want(t, "f() { g; }", fun("f", group(cmd("g"))))
	want(t, "x=1 y", cmd("y").set("x=1"))
	wantError(t, "a |", 3, api.ErrMore)
	wantError(t, "a )", 2, api.ErrForm)
}

func TestNothing(t *testing.T) {
	for _, s := range []string{"", " ", "\t", "\n", "\n\n\n", " \n \\\n\t\n", "#", "# if", "\n# (\n#)\n", "\\\n", strings.Repeat("\n", 400), strings.Repeat(" ", 4096)} {
		wantList(t, s, nil)
	}
}

func TestLists(t *testing.T) {
	a, b, c := cmd("a"), cmd("b"), cmd("c")
	for _, s := range []string{"a", "a;", "a\n", "\na", "\n\n a ;\n\n\n", "a\n\n", " a # b", "#\na #\n"} {
		want(t, s, a)
	}
	for _, s := range []string{"a;b", "a\nb", "a;b;", "a;\nb\n", "a\n\n\nb;\n\n", "\na; b", "a;\n\n b #c"} {
		want(t, s, seq(a, b))
	}
	for _, s := range []string{"a&b", "a&\nb", "a & b;", "a&b\n", "\n a &\n\n b \n"} {
		want(t, s, seq(back(a), b))
	}
	for _, s := range []string{"a&", "a &\n", "\na&\n\n", "a& #b"} {
		want(t, s, seq(back(a)))
	}
	want(t, "a;b&", seq(a, back(b)))
	want(t, "a&b&", seq(back(a), back(b)))
	want(t, "a&b&\n", seq(back(a), back(b)))
	want(t, "a;b;c", seq(a, b, c))
	want(t, "a\nb&c;", seq(a, back(b), c))
	want(t, "a&b;c&", seq(back(a), b, back(c)))
	want(t, "a;a;a;a", seq(a, a, a, a))
	want(t, "a&&b;c||a&b|c", seq(and(a, b), back(or(c, a)), pipe(b, c)))
	wantForm(t, "@;", "@;;", "@&", "\n@;", "a; @;;", "a; @;", "a;@&", "a&@;", "a&@;;", "a& @&", "a& @&&", "a&@||", "a\n@;", "a\n@&", "a\n\n@;", "a;\n@;", "a@;;", "a@;;b", "a;b@;;c", "a&@|b", "a;@||", "a\n@&&b", "a\n@|b", "a;b; @;c", "a&b\n@&", "#\na#\n @;")
}

func TestItems(t *testing.T) {
	a, b, c, d := cmd("a"), cmd("b"), cmd("c"), cmd("d")
	want(t, "a&&b", and(a, b))
	want(t, "a||b", or(a, b))
	want(t, "a && b && c", and(and(a, b), c))
	want(t, "a || b && c", and(or(a, b), c))
	want(t, "a && b || c", or(and(a, b), c))
	want(t, "a || b || c && d", and(or(or(a, b), c), d))
	want(t, "a &&\nb ||\n\n\nc", or(and(a, b), c))
	want(t, "a &&#b\nb", and(a, b))
	want(t, "! a && ! b", and(not(a), not(b)))
	want(t, "a|b&&c|d", and(pipe(a, b), pipe(c, d)))
	want(t, "a&&b&", seq(back(and(a, b))))
	want(t, "a;b||c&d", seq(a, back(or(b, c)), d))
	wantMore(t, "a &&", "a||", "a&&\n\n", "a && b ||", "a|b&&", "a;b||\n", "!a; a && !")
	wantForm(t, "@&& a", "@|| a", "a &&@;", "a &&@&& b", "a || @|| b", "a || @| b", "a && @& b", "a && @)", "a ||\n@; b", "a && b && @&", "a && @then", "a || @}", "a && @;;", "(a && @)")
}

func TestPipes(t *testing.T) {
	a, b, c := cmd("a"), cmd("b"), cmd("c")
	want(t, "a|b", pipe(a, b))
	want(t, "a | b | c", pipe(a, b, c))
	want(t, "a |\nb |\n\n c", pipe(a, b, c))
	want(t, "a|b|c|a|b|c", pipe(a, b, c, a, b, c))
	want(t, "! a", not(a))
	want(t, "! a | b", not(pipe(a, b)))
	want(t, "! a;b", seq(not(a), b))
	want(t, "! a&", seq(back(not(a))))
	want(t, "! (a) | {\nb;}", not(pipe(sub(a), group(b))))
	want(t, "{ a; } | f() { b; } | (c)", pipe(group(a), fun("f", group(b)), sub(c)))
	want(t, "! f() (b)", not(fun("f", sub(b))))
	want(t, "! x=1", not(cmd().set("x=1")))
	want(t, "! >f", not(cmd().to(-1, ">", "f")))
	want(t, "!a", cmd("!a"))
	want(t, `\! a`, cmd(`\!`, "a"))
	want(t, `'!' a`, cmd(`'!'`, "a"))
	want(t, "a ! !", cmd("a", "!", "!"))
	wantMore(t, "!", "a |", "a|\n\n", "a | b |", "! a |", "a && !", "a;!")
	wantForm(t, "@|", "@| a", "a |@;", "a | @| b", "a | @|| b", "a | @& b", "a | @&", "! @!", "! @! a", "!@\na", "!@;a", "! @&", "! @)", "! @}", "a | @! b", "a | @)", "a |\n@;", "a |\n@then", "! a | @! b", "! @| a")
}

func TestSimple(t *testing.T) {
	want(t, "a b c", cmd("a", "b", "c"))
	want(t, "x=1", cmd().set("x=1"))
	want(t, "x=1 y=2 z=", cmd().set("x=1", "y=2", "z="))
	want(t, "x=1 a y=2", cmd("a", "y=2").set("x=1"))
	want(t, "x=1 x=1 a", cmd("a").set("x=1", "x=1"))
	want(t, `a "b c"'d' $(e; f) \g`, cmd("a", `"b c"'d'`, "$(e; f)", `\g`))
	want(t, "<f", cmd().to(-1, "<", "f"))
	want(t, ">f x=1 2>g y=2 <h a <i b=3 3>j", cmd("a", "b=3").set("x=1", "y=2").to(-1, ">", "f").to(2, ">", "g").to(-1, "<", "h").to(-1, "<", "i").to(3, ">", "j"))
	want(t, "a>f b", cmd("a", "b").to(-1, ">", "f"))
	want(t, ">f a", cmd("a").to(-1, ">", "f"))
	want(t, "in", cmd("in"))
	want(t, "in in", cmd("in", "in"))
	want(t, "x=1 in", cmd("in").set("x=1"))
	want(t, ">f in b", cmd("in", "b").to(-1, ">", "f"))
	want(t, "a\\\nb c\\\n d", cmd("a\\\nb", "c\\\n", "d"))
	want(t, "1 2 0", cmd("1", "2", "0"))
	want(t, "a 1 >f", cmd("a", "1").to(-1, ">", "f"))
	want(t, "a 12>f", cmd("a", "12").to(-1, ">", "f"))
	want(t, "a b|c", pipe(cmd("a", "b"), cmd("c")))
	want(t, "x=1|c", pipe(cmd().set("x=1"), cmd("c")))
	want(t, ">f|c", pipe(cmd().to(-1, ">", "f"), cmd("c")))
	wantForm(t, "a b@(", "a b@(c)", "a b@()", "x=1 @(", "x=1 a@() { b; }", ">f a@() { b; }", "a.b@() { c; }", "a@)", "x=1 @)", ">f @(a)", "a b@;;", "in@()", "a $b @)")
}

// TestSets asks which words are sets, and which are not.
func TestSets(t *testing.T) {
	for _, s := range []string{"a=", "a=b", "a==", "_=", "_1=", "a1_Z=b", "Z=$(c d)", "a='b c'", "a=b=c", "if=1", "in=", "a=\\\n", "a=\xff", "abcdefghijklmnopqrstuvwxyz_ABCDEFGHIJKLMNOPQRSTUVWXYZ0123456789=x"} {
		want(t, s, cmd().set(s))
		want(t, s+" c", cmd("c").set(s))
		want(t, "c "+s, cmd("c", s))
		want(t, "b=1 "+s+" >f", cmd().set("b=1", s).to(-1, ">", "f"))
		want(t, ">f "+s, cmd().set(s).to(-1, ">", "f"))
		want(t, "! "+s, not(cmd().set(s)))
	}
	for _, s := range []string{"=", "=a", "==", "1=2", "1a=2", "a", "ab", "a+=1", "a-b=c", "a.b=c", "'a'=b", `a\=b`, `\a=b`, `"a=b"`, "a'='b", "a'b'=c", "a`b`=c", "`a`=b", `a"b"=c`, "$a=b", "${a}=b", "a$=b", "a[0]=b", "\u00e9=1", "a\u00e9=1", "a\x00=1", "a\\\n=1", "/a=b", "~=a", "{=}", "!=1"} {
		want(t, s, cmd(s))
		want(t, s+" x=1", cmd(s, "x=1"))
		want(t, "x=1 "+s+" y=1", cmd(s, "y=1").set("x=1"))
	}
	// Every byte ahead of a `=`, alone and behind a letter.
	for i := range 256 {
		b := byte(i)
		if strings.IndexByte(" \t\n|&;<>()#\\'\"`", b) >= 0 {
			continue
		}
		letter := b == '_' || 'a' <= b && b <= 'z' || 'A' <= b && b <= 'Z'
		digit := '0' <= b && b <= '9'
		for s, is := range map[string]bool{string([]byte{b, '=', 'x'}): letter, string([]byte{'a', b, '=', 'x'}): letter || digit || b == '=', string([]byte{b, 'a', '='}): letter} {
			if is {
				want(t, s, cmd().set(s))
			} else {
				want(t, s, cmd(s))
			}
		}
	}
}

func TestRedirs(t *testing.T) {
	for _, op := range []string{"<", ">", ">>", "<&", ">&", "<>", ">|"} {
		want(t, op+"f", cmd().to(-1, op, "f"))
		want(t, "a"+op+" f", cmd("a").to(-1, op, "f"))
		want(t, "a b "+op+"\tf c", cmd("a", "b", "c").to(-1, op, "f"))
		want(t, op+"\\\nf", cmd().to(-1, op, "f"))
		for _, word := range []string{"'f g'", "$(f g)", "x=1", "if", "}", "in", "!", "fi", "-", "1", "12", "`f`"} {
			want(t, op+word, cmd().to(-1, op, word))
			want(t, op+word+" a", cmd("a").to(-1, op, word))
			want(t, "{ a; } "+op+word, group(cmd("a")).to(-1, op, word))
		}
		for fd := range 10 {
			digit := string([]byte{'0' + byte(fd)})
			want(t, digit+op+"f", cmd().to(fd, op, "f"))
			want(t, "a "+digit+op+"f b", cmd("a", "b").to(fd, op, "f"))
			want(t, "(a)"+digit+op+"f", sub(cmd("a")).to(fd, op, "f"))
			want(t, "a "+digit+" "+op+"f", cmd("a", digit).to(-1, op, "f"))
			// A digit ahead of the next redir is the word of this one.
			for _, next := range []string{"<", ">", ">>", "<&", ">&", "<>", ">|"} {
				want(t, op+digit+next+"f", cmd().to(-1, op, digit).to(-1, next, "f"))
				want(t, "a 7"+op+" "+digit+next+digit, cmd("a").to(7, op, digit).to(-1, next, digit))
				want(t, "a"+op+digit+" "+digit+next+"f", cmd("a").to(-1, op, digit).to(fd, next, "f"))
			}
		}
		wantMore(t, op, "a "+op, "2"+op, "a 2"+op, "(a)"+op, "a >f "+op, "a"+op+"2"+op, "if a; then b; fi "+op)
		wantForm(t, op+"@;", "a "+op+" @;b", "2"+op+"@\nf", op+"@(f)", op+" @)", "(a)"+op+" @|b", op+"@;;", op+" @&", op+" @"+op+" f", op+"2"+op+"@; f", "{ a; }"+op+"@\n")
	}
}

// TestReserved puts each reserved word where it is one, and where it is none.
func TestReserved(t *testing.T) {
	reserved := []string{"!", "{", "}", "case", "do", "done", "elif", "else", "esac", "fi", "for", "if", "then", "until", "while"}
	for _, s := range reserved {
		want(t, "a "+s, cmd("a", s))
		want(t, "a "+s+" "+s, cmd("a", s, s))
		want(t, "a >"+s+" "+s, cmd("a", s).to(-1, ">", s))
		want(t, s+"x", cmd(s+"x"))
		want(t, "x"+s, cmd("x"+s))
		want(t, `\`+s, cmd(`\`+s))
		want(t, "''"+s, cmd("''"+s))
		want(t, `"`+s+`"`, cmd(`"`+s+`"`))
		want(t, s+"''", cmd(s+"''"))
		want(t, s+"\\\n", cmd(s+"\\\n"))
		want(t, "for x in "+s+" a "+s+"; do b; done", among("x", cmd("b"), s, "a", s))
		want(t, "case "+s+" in a) b;; esac", match(s).item(cmd("b"), "a"))
		want(t, "case a in ("+s+") b;; esac", match("a").item(cmd("b"), s))
		want(t, "case a in a|"+s+") b;; esac", match("a").item(cmd("b"), "a", s))
		// It can't be the first word behind sets and redirs, either.
		wantForm(t, "x=1 @"+s, ">f @"+s, "x=1 >f @"+s+" a", "x=1 y=2 @"+s+" a; a")
	}
	for _, s := range []string{"}", "do", "done", "elif", "else", "esac", "fi", "then"} {
		wantForm(t, "@"+s, "\n@"+s, "a;@"+s, "a\n@"+s+" b", "a&@"+s, "a&&@"+s, "a|@"+s, "! @"+s, "(@"+s+")", "(a;@"+s, "@"+s+"()", "(a) @"+s, "f() @"+s)
		if s != "}" {
			wantForm(t, "{ @"+s+";}", "{ a;@"+s+";}", "{ { a; } @"+s)
		}
	}
	for _, s := range []string{"{", "case", "for", "if", "until", "while"} {
		wantMore(t, s, s+" ", "a;"+s, "! "+s, "a |"+s, "{ "+s, "f() "+s)
	}
	// Where they aren't in lower case, they are words.
	want(t, "IF a; Then b; Fi", seq(cmd("IF", "a"), cmd("Then", "b"), cmd("Fi")))
}
