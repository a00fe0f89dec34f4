package parse_test

import (
	"slices"
	"strings"
	"testing"

	"almoner/api"
	"almoner/parse"
)

// deepest is how many compounds and functions may be open, one within the other.
const deepest = 25

// around is what may stand around a list, beginning with the first token of a compound, and the node that it makes.
type around struct {
	left, right string
	make        func(kid *tree) *tree
}

var small = around{"(", ")", sub}

var compounds = []around{
	{"{ ", "; }", group},
	{"(", ")", sub},
	{"(", "; a)", func(kid *tree) *tree { return sub(seq(kid, cmd("a"))) }},
	{"{ a&", "\n}", func(kid *tree) *tree { return group(seq(back(cmd("a")), kid)) }},
	{"if ", "; then a; fi", func(kid *tree) *tree { return choice(kid, cmd("a")) }},
	{"if a; then ", "; fi", func(kid *tree) *tree { return choice(cmd("a"), kid) }},
	{"if a; then b; else ", "; fi", func(kid *tree) *tree { return choice(cmd("a"), cmd("b"), kid) }},
	{"if a; then b; elif ", "; then c; fi", func(kid *tree) *tree { return choice(cmd("a"), cmd("b"), choice(kid, cmd("c"))) }},
	{"if a; then b; elif c; then ", "; fi", func(kid *tree) *tree { return choice(cmd("a"), cmd("b"), choice(cmd("c"), kid)) }},
	{"if a; then b; elif c; then d; else ", "; fi", func(kid *tree) *tree { return choice(cmd("a"), cmd("b"), choice(cmd("c"), cmd("d"), kid)) }},
	{"while ", "; do a; done", func(kid *tree) *tree { return while(kid, cmd("a")) }},
	{"while a; do ", "; done", func(kid *tree) *tree { return while(cmd("a"), kid) }},
	{"until ", "; do a; done", func(kid *tree) *tree { return until(kid, cmd("a")) }},
	{"until a; do ", "; done", func(kid *tree) *tree { return until(cmd("a"), kid) }},
	{"for x do ", "; done", func(kid *tree) *tree { return each("x", kid) }},
	{"for x in a; do ", "; done", func(kid *tree) *tree { return among("x", kid, "a") }},
	{"case a in p) ", ";; esac", func(kid *tree) *tree { return match("a").item(kid, "p") }},
	{"case a in p) b;; (q) ", "; esac", func(kid *tree) *tree { return match("a").item(cmd("b"), "p").item(kid, "q") }},
	{"(! ", ")", func(kid *tree) *tree { return sub(not(kid)) }},
	{"(a | ", ")", func(kid *tree) *tree { return sub(pipe(cmd("a"), kid)) }},
	{"(", "&& a)", func(kid *tree) *tree { return sub(and(kid, cmd("a"))) }},
	{"(a ||\n", "&)", func(kid *tree) *tree { return sub(seq(back(or(cmd("a"), kid)))) }},
}

// wrap lays that many of x around a script and its tree.
func (x around) wrap(n int, s string, kid *tree) (string, *tree) {
	for range n {
		s, kid = x.left+s+x.right, x.make(kid)
	}
	return s, kid
}

// innermost begin a compound or a function each.
var innermost = []string{"{ e; }", "(e)", "if e; then e; fi", "while e; do e; done", "until e; do e; done", "for x do e; done", "case e in esac", "f() { e; }", "f() (e)", "f ( )\n\n{ e; }", "(e) >f", "! (e)", "e | (e)", "e&(e)"}

// marked puts an `@` ahead of the compound or function in one of those.
func marked(s string) string {
	for _, left := range []string{"! ", "e | ", "e&"} {
		if rest, is := strings.CutPrefix(s, left); is {
			return left + "@" + rest
		}
	}
	return "@" + s
}

// TestDeep nests each kind of compound to the bound, and any one deeper.
func TestDeep(t *testing.T) {
	for _, x := range compounds {
		for _, n := range []int{1, 4, 12} {
			s, kid := small.wrap(deepest-n, "e", cmd("e"))
			s, kid = x.wrap(n, s, kid)
			want(t, s, kid)
			s, kid = x.wrap(n, "e", cmd("e"))
			s, kid = small.wrap(deepest-n, s, kid)
			want(t, s, kid)
			left := strings.Repeat(x.left, n) + strings.Repeat("(", deepest-n)
			right := strings.Repeat(")", deepest-n) + strings.Repeat(x.right, n)
			for _, inner := range innermost {
				wantForm(t, left+marked(inner)+right)
				wantForm(t, left+marked(inner))
			}
		}
		wantForm(t, strings.Repeat("(", deepest)+"@"+x.left+"e"+x.right+strings.Repeat(")", deepest))
	}
}

// TestDeepAlone asks that nothing else counts, and only what is open.
func TestDeepAlone(t *testing.T) {
	e := cmd("e")
	for _, x := range []struct {
		s    string
		tree *tree
	}{
		{"! e", not(e)}, {"e | e | e", pipe(e, e, e)}, {"e && e || e", or(and(e, e), e)}, {"e&e&", seq(back(e), back(e))}, {"e; e", seq(e, e)}, {"x=1 >f", cmd().set("x=1").to(-1, ">", "f")},
		{"e $((1)) $(a $(b)) '((('", cmd("e", "$((1))", "$(a $(b))", "'((('")}, {"f", cmd("f")}, {"e if while {", cmd("e", "if", "while", "{")}, {"e >{ {", cmd("e", "{").to(-1, ">", "{")},
	} {
		s, kid := small.wrap(deepest, x.s, x.tree)
		want(t, s, kid)
	}
	// What has ended counts no more.
	s, kid := small.wrap(deepest, "e", e)
	want(t, s+"; "+s+" | "+s, seq(kid, pipe(kid, kid)))
	want(t, "f() { e; }; "+s+"&", seq(fun("f", group(e)), back(kid)))
	s, kid = small.wrap(deepest-1, "e", e)
	want(t, "{ "+s+"; "+s+"&& "+s+"; }", group(seq(kid, and(kid, kid))))
	want(t, "if "+s+" then "+s+" else "+s+" fi", choice(kid, kid, kid))
	want(t, "f() { e; }; ("+s+")", seq(fun("f", group(e)), sub(kid)))
	s, kid = small.wrap(deepest-2, "e", e)
	want(t, "f() { "+s+"; (e) }; { ("+s+") }", seq(fun("f", group(seq(kid, sub(e)))), group(sub(kid))))
}

// TestDeepElifs asks that an `elif` begins no compound.
func TestDeepElifs(t *testing.T) {
	s, x := "fi", choice(cmd("a"), cmd("b"))
	for range 39 {
		s = "elif a; then b; " + s
		x = choice(cmd("a"), cmd("b"), x)
	}
	want(t, "if a; then b; "+s, x)
	s = strings.Replace(s, "fi", "else "+strings.Repeat("(", deepest-1)+"a"+strings.Repeat(")", deepest-1)+" fi", 1)
	if l, _, err := parse.Parse("if a; then b; " + s); err != api.OK || len(l) != 40*3+deepest {
		t.Errorf("%d nodes, %v", len(l), err)
	}
	s, x = small.wrap(deepest-1, "if a; then b; elif a; then b; elif a; then b; fi", choice(cmd("a"), cmd("b"), choice(cmd("a"), cmd("b"), choice(cmd("a"), cmd("b")))))
	want(t, s, x)
	wantForm(t, "if a; then b; elif a; then b; elif a; then "+strings.Repeat("(", deepest-1)+"@(a")
}

// TestDeepFunctions asks that a function counts, and its body, too.
func TestDeepFunctions(t *testing.T) {
	f := around{"f() { ", "; }", func(kid *tree) *tree { return fun("f", group(kid)) }}
	s, kid := f.wrap(12, "(e)", sub(cmd("e")))
	want(t, s, kid)
	left, right := strings.Repeat(f.left, 12), strings.Repeat(f.right, 12)
	wantForm(t, left+"(@(e))"+right, left+"(@f() (e))"+right, left+"f() @(e)"+right, left+"f() @{ e; }"+right, left+"f()\n\n@if e; then e; fi"+right, left+"{ @{ e; }; }"+right)
	wantForm(t, left+"f() @e"+right, left+"f() @;"+right, left+"f() @then", left+"(f @;;")
	wantMore(t, left+"f(", left+"f()", left+"f() ", left+"(f", left+"(")
	s, kid = small.wrap(deepest-2, "f() (e)", fun("f", sub(cmd("e"))))
	want(t, s, kid)
	// A name with a parenthesis behind it is a function's, whatever comes then.
	left = strings.Repeat("(", deepest)
	wantForm(t, left+"@f(", left+"@f()", left+"@f(e)", left+"e;@f(;", left+"e g@()", left+"x=1 f@()", left+"f; @f()", left+"in@()", left+"f.g@()", left+"@{ f(")
	wantMore(t, left+"f", left+"e f", left+"f;")
}

// TestDeepFirst asks which of several errors is met first.
func TestDeepFirst(t *testing.T) {
	left := strings.Repeat("(", deepest)
	wantForm(t, left+"@(((", left+"@{ }", left+"@if fi", left+"@case ;", left+"@for 1", left+"@while", left+"@{", left+"a; @(", left+"! @(", left+"a |\n@(")
	wantForm(t, "a@)"+left+"(", "if @;"+left+"(", left+"@;(", left+"a @;; (", left[1:]+"a)@(((")
	wantForm(t, left+"a)@a(", left+"a) | (@(a", left[1:]+"(a); (@(")
	wantError(t, left+"( 'a", len(left)+4, api.ErrMore) // an error of the lexer is met ahead of all
	wantError(t, "a ) 'b", 6, api.ErrMore)
	wantError(t, ") $("+left, 4+len(left), api.ErrMore)
	wantError(t, ") "+strings.Repeat("$(", 26), 2+50, api.ErrForm)
	wantError(t, "a | "+strings.Repeat("${", 26)+strings.Repeat("}", 26), 4+50, api.ErrForm)
}

// TestLexErrors asks for the errors of the lexer as they are.
func TestLexErrors(t *testing.T) {
	for _, s := range []string{"'", "a 'b", "a; \"b", "$(", "a $(b", "${a", "$((1", "`", "a \\", "if a; then 'b; fi"} {
		wantError(t, s, len(s), api.ErrMore)
	}
	wantError(t, strings.Repeat("a", 4097), 0, api.ErrLong)
	wantError(t, ")"+strings.Repeat(" ", 4096), 0, api.ErrLong)
	wantError(t, strings.Repeat("\n", 401), 400, api.ErrMany)
	wantError(t, strings.Repeat("a ", 401), 800, api.ErrMany)
	wantError(t, strings.Repeat(") ", 400)+" )", 801, api.ErrMany)
	wantError(t, strings.Repeat("a&", 200)+" 'b", 401, api.ErrMany)
	want(t, strings.Repeat("a", 4096), cmd(strings.Repeat("a", 4096)))
	want(t, strings.Repeat("a ", 400), cmd(strings.Fields(strings.Repeat("a ", 400))...))
}

// filled makes a script with a number of nodes: as many as possible are in a list of items that are not waited for.
func filled(nodes int, item string, size int) string {
	n := (nodes - 1) / size
	return strings.Repeat(item, n) + strings.Repeat("a\n", nodes-1-n*size)
}

func TestMany(t *testing.T) {
	for _, x := range []struct {
		item string
		size int
	}{{"a&", 2}, {"! a&", 3}, {"(a&)&", 5}, {"(! a&)&", 6}, {"!(a&)&", 6}, {"a|b&", 4}, {"a&&b&", 4}, {"{ a&}&", 5}} {
		for _, n := range []int{299, 300} {
			s := filled(n, x.item, x.size)
			if l, at, err := parse.Parse(s); len(l) != n || at != 0 || err != api.OK {
				t.Errorf("Parse(%q): %d nodes, %d, %v; want %d", s, len(l), at, err, n)
			}
		}
		for _, n := range []int{301, 302, 310} {
			s := filled(n, x.item, x.size)
			wantError(t, s, 0, api.ErrMany)
			wantError(t, "\n \n"+s, 0, api.ErrMany)
			// Any other error comes ahead of it, wherever it is.
			wantForm(t, s+"@)", s+"@;", s+"a @;; b", s+"@then", "@;"+s, "( @)"+s)
			wantMore(t, s+"a|", s+"{", s+"(a", "( "+s)
			wantError(t, s+"'", len(s)+1, api.ErrMore)
			wantForm(t, s+strings.Repeat("(", deepest)+"@(a")
		}
	}
	for s, n := range map[string]int{strings.Repeat("a&&", 149) + "a": 299, "! " + strings.Repeat("a&&", 149) + "a": 300, strings.Repeat("a||", 149) + "! a": 300, strings.Repeat("a|", 199) + "a": 201, strings.Repeat("a;", 199) + "a": 201, strings.Repeat("a&", 149) + "a": 300, "(" + strings.Repeat("a&", 149) + ")": 300} {
		if l, at, err := parse.Parse(s); len(l) != n || at != 0 || err != api.OK {
			t.Errorf("Parse(%q): %d nodes, %d, %v; want %d", s, len(l), at, err, n)
		}
	}
	for _, s := range []string{strings.Repeat("a&&", 150) + "a", "! " + strings.Repeat("a&&", 149) + "! a", strings.Repeat("a&", 150), strings.Repeat("a&", 200), "{ " + strings.Repeat("a&", 149) + "a\n}", "(" + strings.Repeat("a&", 149) + ")&"} {
		wantError(t, s, 0, api.ErrMany)
	}
}

// TestOwnership overwrites what came back with all its room, and looks at the rest of it and at another answer.
func TestOwnership(t *testing.T) {
	const s = "x=1 y=2 a b >f <g; case a in p|q) b;; (r|s) c;; esac >f 2>g; for x in a b; do c&d& done; a|b|c && ! d; if a; then b; else c; fi; f() { a; } >f"
	l, _, _ := parse.Parse(s)
	other, _, _ := parse.Parse(s)
	kept, _, _ := parse.Parse(s)
	for i, node := range l {
		fill(node.Sets, "x")
		fill(node.Words, "x")
		fill(node.Redirs, api.Redir{Fd: 9, Op: "x", Word: "x"})
		fill(node.Kids, 99)
		for _, pats := range node.Pats {
			fill(pats, "x")
		}
		fill(node.Pats, []string{"x"})
		l[i].Name = "x"
		for j := i + 1; j < len(l); j++ {
			if !sameNode(l[j], kept[j]) {
				t.Errorf("with node %d, node %d became %v", i, j, l[j])
			}
		}
	}
	fill(l, api.Node{})
	if !slices.EqualFunc(other, kept, sameNode) {
		t.Errorf("the other answer became %v", other)
	}
	wantList(t, s, kept)
	one, _, _ := parse.Parse("a b >f 1>g x=1")
	fill(one[0].Words, "x")
	if !slices.Equal(one[0].Redirs, []api.Redir{{Fd: -1, Op: ">", Word: "f"}, {Fd: 1, Op: ">", Word: "g"}}) {
		t.Errorf("the redirs became %v", one[0].Redirs)
	}
}

// fill overwrites a list, and what lies behind it in its memory.
func fill[T any](l []T, x T) {
	l = l[:cap(l)]
	for i := range l {
		l[i] = x
	}
}
