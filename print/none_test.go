package print_test

import (
	"slices"
	"strings"
	"testing"

	"almoner/api"
	"almoner/lex"
	"almoner/print"
)

func TestNoNodes(t *testing.T) {
	wantNone(t, nil, list(), nodes(t, ""), nodes(t, "\n# a\n"), make([]api.Node, 0, 5))
}

// TestOrder asks for no text of nodes that are all there, but not in order.
func TestOrder(t *testing.T) {
	a, b, c := cmd("a"), cmd("b"), cmd("c")
	wantNone(t,
		list(a, a), list(a, b, c), // none of them is the last one's
		list(a, b, of(api.NNot, 1)), list(a, b, of(api.NNot, 0)), list(a, of(api.NNot, 0), b),
		list(a, b, of(api.NAnd, 1, 0)), list(a, b, of(api.NAnd, 0, 0)), list(a, b, of(api.NAnd, 1, 1)),
		list(a, of(api.NAnd, 0, 0)), list(a, of(api.NSeq, 0, 0)), list(a, of(api.NPipe, 0, 0)),
		list(of(api.NGroup, 1), a), list(of(api.NGroup, 0)), list(of(api.NGroup, 1)), list(a, of(api.NGroup, 1)), list(a, of(api.NGroup, 2)), list(a, of(api.NGroup, -1)), list(a, of(api.NGroup, -2)),
		list(a, of(api.NNot, 1<<62)), list(a, of(api.NNot, -1<<63)), list(a, of(api.NSeq, 0, -1)), list(a, of(api.NIf, 0, -1)), list(a, b, of(api.NIf, 0, 1, -1)),
		list(of(api.NSub, 1), of(api.NSub, 0)), list(a, of(api.NSub, 2), of(api.NSub, 1)),
		// The nodes of b and c change places, and so do the kids.
		list(a, b, c, of(api.NSub, 1), of(api.NPipe, 0, 3, 2)), list(a, c, b, of(api.NSub, 2), of(api.NPipe, 0, 3, 1)),
		list(a, b, c, of(api.NAnd, 0, 1), of(api.NAnd, 3, 2)), list(a, b, c, of(api.NAnd, 0, 2), of(api.NAnd, 3, 1)), list(c, a, b, of(api.NAnd, 1, 2), of(api.NAnd, 3, 0)),
		// There is a node too many, at the beginning, between and at the end.
		list(c, a, b, of(api.NAnd, 1, 2)), list(a, c, b, of(api.NAnd, 0, 2)), list(a, b, of(api.NAnd, 0, 1), c), list(a, b, c, of(api.NAnd, 0, 1)),
	)
	wantText(t, list(a, b, of(api.NAnd, 0, 1), c, of(api.NAnd, 2, 3)), "a && b && c")
	// In a case, -1 stands for no kid, and nothing else does.
	match := func(kids ...int) api.Node {
		return api.Node{Kind: api.NCase, Words: []string{"x"}, Pats: [][]string{{"p"}, {"q"}}, Kids: kids}
	}
	wantText(t, list(match(-1, -1)), "case x in (p);; (q);; esac")
	wantText(t, list(a, match(0, -1)), "case x in (p) a;; (q);; esac")
	wantText(t, list(a, match(-1, 0)), "case x in (p);; (q) a;; esac")
	wantText(t, list(a, b, match(0, 1)), "case x in (p) a;; (q) b;; esac")
	wantNone(t, list(match(-2, -1)), list(a, match(-1, -1)), list(a, match(0, 0)), list(a, b, match(1, 0)), list(a, b, match(-1, 1)), list(a, match(0, -2)), list(a, match(0, 1)), list(a, b, match(0, -1)))
	// The text of what is shared would be endless, or nearly.
	wantNone(t, list(of(api.NNot, 0)), list(a, of(api.NAnd, 0, 1)), list(of(api.NAnd, 1, 1), of(api.NAnd, 0, 0)))
	shared := list(a)
	for i := range 299 {
		shared = append(shared, of(api.NAnd, i, i))
	}
	wantNone(t, shared)
}

// TestKids gives each kind other numbers of kids than it has.
func TestKids(t *testing.T) {
	rights := map[int][]int{api.NNot: {1}, api.NPipe: {2, 3, 4, 5}, api.NAnd: {2}, api.NOr: {2}, api.NSeq: {2, 3, 4, 5}, api.NGroup: {1}, api.NSub: {1}, api.NIf: {2, 3}, api.NWhile: {2}, api.NUntil: {2}, api.NFor: {1}}
	for kind := -1; kind <= 20; kind++ {
		var l []api.Node
		var kids []int
		for n := range 6 {
			node := of(kind, kids...)
			if kind == api.NFor {
				node.Name = "x"
			}
			right := slices.Contains(rights[kind], n)
			if got := print.Print(append(slices.Clip(l), node)); (got != "") != right {
				t.Errorf("kind %d of %d kids: %q", kind, n, got)
			}
			l, kids = append(l, cmd("a")), append(kids, n)
		}
	}
	for _, kind := range []int{0, -1, 16, 17, 1 << 62, -1 << 63} {
		node := api.Node{Kind: kind, Name: "f", In: true, Sets: []string{"x=1"}, Words: []string{"a"}, Redirs: []api.Redir{{Fd: -1, Op: ">", Word: "f"}}, Pats: [][]string{{"a"}}}
		wantNone(t, list(node), list(of(kind)), list(cmd("a"), of(kind, 0)), list(node, of(api.NNot, 0)), list(of(kind), of(api.NGroup, 0)), list(of(kind), cmd("a"), of(api.NSeq, 0, 1)))
	}
	wantNone(t, list(cmd("a"), of(api.NFunc, 0)), list(api.Node{Kind: api.NFunc, Name: "f"}), list(cmd("a"), api.Node{Kind: api.NFunc, Name: "f", Kids: []int{0}}), list(of(api.NBack)), list(cmd("a"), of(api.NBack, 0)), list(of(api.NBack), of(api.NSeq, 0)))
	for _, x := range []struct {
		pats [][]string
		kids []int
	}{{nil, []int{-1}}, {[][]string{{"p"}}, nil}, {[][]string{{"p"}}, []int{-1, -1}}, {[][]string{{"p"}, {"q"}}, []int{-1}}, {[][]string{{}}, []int{-1}}, {[][]string{{"p"}, nil}, []int{-1, -1}}, {[][]string{{""}}, []int{-1}}} {
		wantNone(t, list(api.Node{Kind: api.NCase, Words: []string{"x"}, Pats: x.pats, Kids: x.kids}))
	}
	wantNone(t, list(of(api.NCase)), list(api.Node{Kind: api.NCase, Words: []string{""}}), list(api.Node{Kind: api.NCase, Words: []string{"x", "y"}}), list(api.Node{Kind: api.NCase, Words: []string{}, Pats: [][]string{{"p"}}, Kids: []int{-1}}), list(of(api.NCmd)), list(of(api.NCmd), of(api.NSub, 0)))
}

// TestShapes asks for no text of trees that the grammar has no script for.
func TestShapes(t *testing.T) {
	a, b, c := cmd("a"), cmd("b"), cmd("c")
	wantNone(t,
		list(a, of(api.NNot, 0), of(api.NNot, 1)), list(a, of(api.NNot, 0), b, of(api.NPipe, 1, 2)), list(a, b, of(api.NNot, 1), of(api.NPipe, 0, 2)),
		list(a, b, of(api.NPipe, 0, 1), c, of(api.NPipe, 2, 3)), list(a, b, c, of(api.NPipe, 1, 2), of(api.NPipe, 0, 3)),
		list(a, b, of(api.NAnd, 0, 1), of(api.NNot, 2)), list(a, b, c, of(api.NAnd, 1, 2), of(api.NOr, 0, 3)), list(a, b, of(api.NAnd, 0, 1), c, of(api.NPipe, 2, 3)),
		list(a, b, of(api.NSeq, 0, 1), c, of(api.NSeq, 2, 3)), list(a, b, c, of(api.NSeq, 1, 2), of(api.NSeq, 0, 3)), list(a, b, of(api.NSeq, 0, 1), c, of(api.NAnd, 2, 3)), list(a, b, of(api.NSeq, 0, 1), of(api.NNot, 2)),
		list(a, of(api.NSeq, 0)), list(of(api.NSeq)), list(a, b, of(api.NSeq, 0, 1), of(api.NBack, 2), of(api.NSeq, 3)),
		list(a, of(api.NBack, 0)), list(a, of(api.NBack, 0), of(api.NBack, 1), of(api.NSeq, 2)), list(a, of(api.NBack, 0), of(api.NGroup, 1)), list(a, of(api.NBack, 0), of(api.NSub, 1)), list(a, of(api.NBack, 0), b, of(api.NAnd, 1, 2)), list(a, of(api.NBack, 0), of(api.NNot, 1)),
		list(a, of(api.NBack, 0), b, of(api.NIf, 1, 2)), list(a, b, of(api.NBack, 1), of(api.NWhile, 0, 2)),
		list(a, api.Node{Kind: api.NFunc, Name: "f", Kids: []int{0}}), list(a, of(api.NNot, 0), api.Node{Kind: api.NFunc, Name: "f", Kids: []int{1}}), list(a, of(api.NSub, 0), api.Node{Kind: api.NFunc, Name: "f", Kids: []int{1}}, api.Node{Kind: api.NFunc, Name: "g", Kids: []int{2}}),
	)
	// Redirections behind a function are those of its body.
	to := []api.Redir{{Fd: -1, Op: ">", Word: "f"}}
	wantNone(t, list(a, of(api.NSub, 0), api.Node{Kind: api.NFunc, Name: "f", Redirs: to, Kids: []int{1}}))
	wantText(t, list(a, api.Node{Kind: api.NSub, Redirs: to, Kids: []int{0}}, api.Node{Kind: api.NFunc, Name: "f", Kids: []int{1}}), "f() ( a ) >f")
}

// one has a node of each kind.
var one = []string{"x=1 a >f", "! a", "a | b", "a && b", "a || b", "a; b", "a & b", "{ a; } >f", "( a ) >f", "if a; then b; else c; fi >f", "while a; do b; done >f", "until a; do b; done >f", "for x in a; do b; done >f", "for x; do b; done", "case a in (b | c) d;; (e);; esac >f", "f() { a; }"}

// TestFields sets each field of each kind to something that Parse does not answer with.
func TestFields(t *testing.T) {
	changes := map[string]func(*api.Node){
		"Sets":  func(x *api.Node) { x.Sets = append(x.Sets, "a b") },
		"Set":   func(x *api.Node) { x.Sets = append(x.Sets, "") },
		"Word":  func(x *api.Node) { x.Words = append(x.Words, "") },
		"Redir": func(x *api.Node) { x.Redirs = append(x.Redirs, api.Redir{}) },
		"Redirs": func(x *api.Node) {
			x.Redirs = append(x.Redirs, api.Redir{Fd: -1, Op: ">", Word: "f g"})
		},
		"Pats": func(x *api.Node) { x.Pats = append(x.Pats, []string{"p"}) },
		"Pat":  func(x *api.Node) { x.Pats = append(x.Pats, nil) },
		"Kids": func(x *api.Node) { x.Kids = append(x.Kids, -1) },
		"Kid":  func(x *api.Node) { x.Kids = append(x.Kids, 0) },
		"Kind": func(x *api.Node) { x.Kind += 16 },
	}
	for _, s := range one {
		l := nodes(t, s)
		for name, change := range changes {
			changed := clone(l)
			change(&changed[len(l)-1])
			if got := print.Print(changed); got != "" {
				t.Errorf("%s with other %s: %q", s, name, got)
			}
		}
		last := l[len(l)-1]
		// What does not apply to a kind has to be empty, even if it were right elsewhere.
		wantField(t, s, last.Kind == api.NCmd, func(x *api.Node) { x.Sets = append(x.Sets, "y=1") })
		wantField(t, s, last.Kind == api.NCmd || last.In, func(x *api.Node) { x.Words = append(x.Words, "y") })
		wantField(t, s, last.Kind == api.NCmd || last.Kind >= api.NGroup && last.Kind != api.NFunc, func(x *api.Node) { x.Redirs = append(x.Redirs, api.Redir{Fd: -1, Op: "<", Word: "y"}) })
		wantField(t, s, last.Kind == api.NFor || last.Kind == api.NFunc, func(x *api.Node) { x.Name = "y" })
		wantField(t, s, last.Kind == api.NFor, func(x *api.Node) { x.In = true })
		wantField(t, s, last.Kind == api.NCase, func(x *api.Node) {
			x.Pats, x.Kids = append(x.Pats, []string{"y"}), append(x.Kids, -1)
		})
	}
	// Without an `in` there are no words.
	wantNone(t, list(cmd("b"), api.Node{Kind: api.NFor, Name: "x", Words: []string{"a"}, Kids: []int{0}}))
}

// wantField asks whether there is a text still, and another one, when the last node was changed.
func wantField(t *testing.T, s string, is bool, change func(*api.Node)) {
	t.Helper()
	l := nodes(t, s)
	was := clone(l)
	change(&l[len(l)-1])
	got := print.Print(l)
	if (got != "") != is || got == s && !slices.EqualFunc(l, was, sameNode) {
		t.Errorf("Print(%v) = %q", l, got)
	}
}

// TestWords puts strings where words belong, of which a few can be there.
func TestWords(t *testing.T) {
	for _, w := range []string{"", " ", "a b", "a ", " a", "\ta", "a\n", "\n", "a;", ";", "a&", "a&b", "a|b", "|", "(", "a)", "<f", "a>f", "2>f", "#", "#a", "'", "'a", "a\"", "\\", "a\\", "$(", "$(a", "${a", "$((1)", "`", "`a", "a #b", "a\n#b", "\\\na", "a; b", "a b; then c", "a); esac; (b"} {
		wantNone(t, list(cmd("c", w)), list(cmd(w)), list(cmd(w, "c")), list(api.Node{Kind: api.NCmd, Sets: []string{w}}),
			list(cmd("b"), api.Node{Kind: api.NFor, Name: "x", In: true, Words: []string{w}, Kids: []int{0}}), list(cmd("b"), api.Node{Kind: api.NFor, Name: w, Kids: []int{0}}), list(cmd("b"), of(api.NSub, 0), api.Node{Kind: api.NFunc, Name: w, Kids: []int{1}}),
			list(api.Node{Kind: api.NCase, Words: []string{w}}), list(api.Node{Kind: api.NCase, Words: []string{"a"}, Pats: [][]string{{w}}, Kids: []int{-1}}), list(api.Node{Kind: api.NCase, Words: []string{"a"}, Pats: [][]string{{"a", w}}, Kids: []int{-1}}))
		for _, op := range []string{"<", ">", ">>", "<&", ">&", "<>", ">|"} {
			wantNone(t, list(api.Node{Kind: api.NCmd, Redirs: []api.Redir{{Fd: -1, Op: op, Word: w}}}), list(cmd("b"), api.Node{Kind: api.NSub, Redirs: []api.Redir{{Fd: 1, Op: op, Word: w}}, Kids: []int{0}}))
		}
	}
	for _, w := range []string{"!", "{", "}", "case", "do", "done", "elif", "else", "esac", "fi", "for", "if", "then", "until", "while", "x=1", "_="} {
		wantNone(t, list(cmd(w)), list(cmd(w, "a")), list(api.Node{Kind: api.NCmd, Sets: []string{"y="}, Words: []string{w}}))
		wantText(t, list(cmd("a", w)), "a "+w)
		wantText(t, list(cmd("b"), api.Node{Kind: api.NFor, Name: "x", In: true, Words: []string{w, w}, Kids: []int{0}}), "for x in "+w+" "+w+"; do b; done")
		wantText(t, list(api.Node{Kind: api.NCase, Words: []string{w}, Pats: [][]string{{w, w}}, Kids: []int{-1}}), "case "+w+" in ("+w+" | "+w+");; esac")
		wantText(t, list(api.Node{Kind: api.NCmd, Redirs: []api.Redir{{Fd: -1, Op: ">", Word: w}}}), ">"+w)
	}
	// A set is no word at the beginning, and a word no set.
	for _, w := range []string{"a", "1=2", "=", "a b=c", "'x'=1", "x", "", "$x=1", "x=a b", "x= ", "x=;", "x='", "x=1\n", "x=(a)", "x=a&"} {
		wantNone(t, list(api.Node{Kind: api.NCmd, Sets: []string{w}}), list(api.Node{Kind: api.NCmd, Sets: []string{w}, Words: []string{"a"}}), list(api.Node{Kind: api.NCmd, Sets: []string{"x=1", w}}))
	}
	wantText(t, list(api.Node{Kind: api.NCmd, Words: []string{"a", "x=1"}}), "a x=1")
	wantNone(t, list(api.Node{Kind: api.NCmd, Words: []string{"x=1", "a"}}))
	// They are the names of functions and loops.
	for _, name := range []string{"1", "1a", "a.b", "a-b", "'a'", "$a", "a=1", "\u00e9", "a b", ""} {
		wantNone(t, list(cmd("b"), api.Node{Kind: api.NFor, Name: name, Kids: []int{0}}), list(cmd("b"), of(api.NSub, 0), api.Node{Kind: api.NFunc, Name: name, Kids: []int{1}}))
	}
	for _, name := range []string{"in", "do", "if", "esac", "done"} {
		wantText(t, list(cmd("b"), api.Node{Kind: api.NFor, Name: name, Kids: []int{0}}), "for "+name+"; do b; done")
		wantNone(t, list(cmd("b"), of(api.NSub, 0), api.Node{Kind: api.NFunc, Name: name, Kids: []int{1}}))
	}
}

// TestTextsOfOthers asks for no text of nodes with a text that is a script of other nodes.
func TestTextsOfOthers(t *testing.T) {
	wantNone(t, list(cmd("a; b")), list(cmd("a", "b c")), list(cmd("a | b")), list(cmd("a", ">f")), list(cmd("a", "2>&1")), list(cmd("a &", "b")), list(cmd("x=1", "a")), list(cmd("{ a; }")), list(cmd("! a")), list(cmd("a\nb")), list(cmd("f()", "{", "a;", "}")), list(cmd("a#", "#b")),
		list(api.Node{Kind: api.NCmd, Sets: []string{"x=1 a"}}), list(api.Node{Kind: api.NCmd, Sets: []string{"x=1", "a"}}), list(api.Node{Kind: api.NCmd, Sets: []string{"x=1 y=2"}}), list(api.Node{Kind: api.NCmd, Sets: []string{"x=1>f"}}),
		list(cmd("b"), api.Node{Kind: api.NFor, Name: "x in a", Kids: []int{0}}), list(cmd("b"), api.Node{Kind: api.NFor, Name: "x", In: true, Words: []string{"a b"}, Kids: []int{0}}), list(cmd("b"), api.Node{Kind: api.NFor, Name: "x", In: true, Words: []string{"a; do c; done; for y in"}, Kids: []int{0}}),
		list(api.Node{Kind: api.NCase, Words: []string{"a"}, Pats: [][]string{{"b | c"}}, Kids: []int{-1}}), list(api.Node{Kind: api.NCase, Words: []string{"a"}, Pats: [][]string{{"b);; (c"}}, Kids: []int{-1}}), list(api.Node{Kind: api.NCase, Words: []string{"a in (b);; esac; case c"}}),
		list(cmd("b"), of(api.NSub, 0), api.Node{Kind: api.NFunc, Name: "a; f", Kids: []int{1}}))
	for _, redir := range []api.Redir{{Fd: -1, Op: ">", Word: "&1"}, {Fd: -1, Op: ">", Word: ">f"}, {Fd: -1, Op: ">", Word: "|f"}, {Fd: -1, Op: "<", Word: ">f"}, {Fd: -1, Op: "2>", Word: "f"}, {Fd: -1, Op: "", Word: ">f"}, {Fd: 2, Op: "", Word: ">f"}, {Fd: -1, Op: "> ", Word: "f"}, {Fd: -1, Op: ">", Word: " f"}, {Fd: -1, Op: ">f", Word: ""}, {Fd: -1, Op: "a", Word: "b"}, {Fd: -1, Op: "", Word: "b"}, {Fd: -1, Op: ">a >", Word: "b"},
		{Fd: -2, Op: ">", Word: "f"}, {Fd: 10, Op: ">", Word: "f"}, {Fd: 12, Op: "<", Word: "f"}, {Fd: -1 << 63, Op: ">", Word: "f"}, {Fd: 1<<63 - 1, Op: ">", Word: "f"}, {Fd: 256, Op: ">", Word: "f"}, {Fd: 255, Op: ">", Word: "f"}, {Fd: -1, Op: "<<", Word: "f"}, {Fd: -1, Op: "|", Word: "f"}, {Fd: -1, Op: ">>>", Word: "f"}, {Fd: -1, Op: ">", Word: ""}, {}} {
		wantNone(t, list(api.Node{Kind: api.NCmd, Redirs: []api.Redir{redir}}), list(api.Node{Kind: api.NCmd, Words: []string{"a"}, Redirs: []api.Redir{redir}}), list(cmd("a"), api.Node{Kind: api.NGroup, Redirs: []api.Redir{redir}, Kids: []int{0}}))
	}
}

// TestBytes takes all words of up to two bytes, each behind a letter and alone.
func TestBytes(t *testing.T) {
	words := []string{""}
	for i := range 256 {
		words = append(words, string([]byte{byte(i)}))
		for j := range 256 {
			words = append(words, string([]byte{byte(i), byte(j)}))
		}
	}
	for _, w := range words {
		for _, w := range []string{w, "x" + w} {
			tokens, _, err := lex.All(w)
			want := ""
			if err == api.OK && len(tokens) == 2 && tokens[0].Kind == api.TokWord && tokens[0].Text == w {
				want = "a " + w
			}
			if got := print.Print(list(cmd("a", w))); got != want {
				t.Errorf("word %q: %q", w, got)
			}
			want = strings.Replace(want, " ", " >", 1)
			if got := print.Print(list(api.Node{Kind: api.NCmd, Words: []string{"a"}, Redirs: []api.Redir{{Fd: -1, Op: ">", Word: w}}})); got != want {
				t.Errorf("redir to %q: %q", w, got)
			}
		}
	}
}
