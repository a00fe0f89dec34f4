package print_test

import (
	"runtime"
	"slices"
	"strings"
	"testing"

	"almoner/api"
	"almoner/parse"
	"almoner/print"
)

// TestManyNodes prints as many nodes as there may be, and one more.
func TestManyNodes(t *testing.T) {
	behind := func(n int, first ...api.Node) []api.Node {
		l := first
		kids := []int{}
		for range n {
			l = append(l, cmd("a"), of(api.NBack, len(l)))
			kids = append(kids, len(l)-1)
		}
		if len(first) > 0 {
			kids = append([]int{len(first) - 1}, kids...)
		}
		return append(l, of(api.NSeq, kids...))
	}
	text := strings.Repeat(" a &", 149)
	wantText(t, behind(149), text[1:])
	wantText(t, behind(149, cmd("b")), "b;"+text)
	wantNone(t, behind(150), behind(149, cmd("b"), of(api.NNot, 0)), behind(149, cmd("b"), of(api.NSub, 0)), behind(150, cmd("b")), behind(199, cmd("b")))
	wantText(t, behind(148, cmd("b"), of(api.NNot, 0)), "! b;"+text[4:])
	left := list(cmd("a"))
	for range 149 {
		left = append(left, cmd("a"), of(api.NAnd, len(left)-1, len(left)))
	}
	wantText(t, left, "a"+strings.Repeat(" && a", 149))
	wantNone(t, append(left, cmd("a"), of(api.NOr, 298, 299)))
}

// TestManyTokens prints as many tokens as a script may have, and one more.
func TestManyTokens(t *testing.T) {
	for n := 390; n <= 410; n++ {
		words := strings.Fields(strings.Repeat("a ", n))
		wantUpTo(t, n <= 400, list(cmd(words...)), strings.Join(words, " "))
		wantUpTo(t, n <= 400, list(cmd("a"), cmd(words[2:]...), of(api.NPipe, 0, 1)), "a | "+strings.Join(words[2:], " "))
		wantUpTo(t, n <= 400, list(cmd("a"), api.Node{Kind: api.NFor, Name: "x", In: true, Words: words[8:], Kids: []int{0}}), "for x in "+strings.Join(words[8:], " ")+"; do a; done")
	}
	// Texts that have a `;` or a parenthesis more than the script may have too many.
	sets := strings.Repeat(" x=1", 397)
	want(t, "{"+sets+"; }", "{"+sets+" }")
	wantNone(t, nodes(t, "{"+sets+" x=1 }"))
	items := strings.Repeat(" (a);;", 99)
	want(t, "case a in"+items+" esac", "case a in"+strings.Repeat(" a);;", 98)+" a) esac")
	wantNone(t, nodes(t, "case a in"+strings.Repeat(" a);;", 99)+" a) esac"))
}

// wantUpTo asks for a text within a bound, and for none beyond it.
func wantUpTo(t *testing.T, within bool, l []api.Node, text string) {
	t.Helper()
	if !within {
		text = ""
	}
	wantText(t, l, text)
}

// TestLongTexts prints texts as long as they may be, and longer ones.
func TestLongTexts(t *testing.T) {
	for n := 4090; n <= 4100; n++ {
		word := strings.Repeat("a", n)
		for text, l := range map[string][]api.Node{
			word:                    list(cmd(word)),
			"a " + word[2:]:         list(cmd("a", word[2:])),
			word[2:] + " a":         list(cmd(word[2:], "a")),
			"x=" + word[2:]:         list(api.Node{Kind: api.NCmd, Sets: []string{"x=" + word[2:]}}),
			"{ " + word[5:] + "; }": list(cmd(word[5:]), of(api.NGroup, 0)),
			"( " + word[4:] + " )":  list(cmd(word[4:]), of(api.NSub, 0)),
			"( a ) >" + word[7:]:    list(cmd("a"), api.Node{Kind: api.NSub, Redirs: []api.Redir{{Fd: -1, Op: ">", Word: word[7:]}}, Kids: []int{0}}),
			"a; " + word[3:]:        list(cmd("a"), cmd(word[3:]), of(api.NSeq, 0, 1)),
			word[2:] + " &":         list(cmd(word[2:]), of(api.NBack, 0), of(api.NSeq, 1)),
		} {
			wantUpTo(t, n <= 4096, l, text)
		}
	}
	// A script can be short enough, and its text too long.
	for n := 4080; n < 4090; n++ {
		word := strings.Repeat("a", n)
		text := "{ " + word + "; } >f"
		wantUpTo(t, len(text) <= 4096, nodes(t, "{ "+word+"\n}>f"), text)
	}
	wantNone(t, nodes(t, "("+strings.Repeat("a", 4093)+")"), nodes(t, strings.Repeat("a", 2047)+"&"+strings.Repeat("a", 2047)+"&"))
}

// TestDeep nests compounds and functions as deep as they may be, and once more.
func TestDeep(t *testing.T) {
	for n := 20; n <= 30; n++ {
		sub, group, fun, choice := list(cmd("a")), list(cmd("a")), list(cmd("a")), list(cmd("a"))
		for i := range n {
			sub = append(sub, of(api.NSub, i))
			group = append(group, of(api.NGroup, i))
			choice = append(list(cmd("a"), cmd("b")), choice...)
		}
		for i := range n {
			choice = append(choice, of(api.NIf, 2*n-2*i-2, 2*n-2*i-1, 2*n+i))
		}
		for i := range n / 2 {
			fun = append(fun, of(api.NSub, 2*i), api.Node{Kind: api.NFunc, Name: "f", Kids: []int{2*i + 1}})
		}
		wantUpTo(t, n <= 25, sub, strings.Repeat("( ", n)+"a"+strings.Repeat(" )", n))
		wantUpTo(t, n <= 25, group, strings.Repeat("{ ", n)+"a"+strings.Repeat("; }", n))
		// A function is one level, and its body another one.
		wantUpTo(t, n/2*2 <= 25, fun, strings.Repeat("f() ( ", n/2)+"a"+strings.Repeat(" )", n/2))
		// All that follow by elif are one compound.
		wantText(t, choice, strings.Repeat("if a; then b; el", n)+"se a; fi")
	}
	// What was too deep with an `else` is not with an `elif`.
	left, right := strings.Repeat("( ", 24), strings.Repeat(" )", 24)
	want(t, left+"if a; then b; elif c; then d; fi"+right)
	wantText(t, deepElse(24), strings.Repeat("( ", 23)+"if a; then b; else if c; then d; fi >f; fi"+strings.Repeat(" )", 23))
	wantNone(t, deepElse(25))
}

// deepElse has n-1 subshells around an if and another if in its else.
func deepElse(n int) []api.Node {
	l := list(cmd("a"), cmd("b"), cmd("c"), cmd("d"), api.Node{Kind: api.NIf, Redirs: []api.Redir{{Fd: -1, Op: ">", Word: "f"}}, Kids: []int{2, 3}}, of(api.NIf, 0, 1, 4))
	for range n - 1 {
		l = append(l, of(api.NSub, len(l)-1))
	}
	return l
}

// wantLittle asks for no text, and for little memory on the way.
func wantLittle(t *testing.T, what string, l []api.Node) {
	t.Helper()
	var before, behind runtime.MemStats
	runtime.ReadMemStats(&before)
	text := print.Print(l)
	runtime.ReadMemStats(&behind)
	if used := behind.TotalAlloc - before.TotalAlloc; text != "" || used > 100_000_000 {
		t.Errorf("%s: a text of %d bytes, and %d bytes used", what, len(text), used)
	}
}

// TestHuge asks for no text of what is far too long or too deep, and for an end.
func TestHuge(t *testing.T) {
	long := strings.Repeat("a", 16_000_000)
	words := slices.Repeat([]string{long}, 100)
	redirs := slices.Repeat([]api.Redir{{Fd: 1, Op: long, Word: long}}, 100)
	for _, node := range []api.Node{{Kind: api.NCmd, Words: words}, {Kind: api.NCmd, Sets: words}, {Kind: api.NCmd, Redirs: redirs}, {Kind: api.NCase, Words: words, Redirs: redirs}, {Kind: api.NCase, Pats: [][]string{words, words}}, {Kind: api.NFunc, Name: long}} {
		wantLittle(t, "long words", list(node))
		wantLittle(t, "long words within", list(node, of(api.NGroup, 0)))
	}
	wantLittle(t, "a long for", list(cmd(words...), api.Node{Kind: api.NFor, Name: long, In: true, Words: words, Redirs: redirs, Kids: []int{0}}))
	const many = 1_000_000
	for _, node := range []api.Node{{Kind: api.NCmd, Words: make([]string, many)}, {Kind: api.NCmd, Redirs: make([]api.Redir, many)}, {Kind: api.NCase, Pats: make([][]string, many), Kids: slices.Repeat([]int{-1}, many)}, {Kind: api.NCase, Kids: slices.Repeat([]int{-1}, many)}, {Kind: api.NSeq, Kids: make([]int, many)}} {
		wantLittle(t, "many words", list(node))
	}
	deep := list(cmd("a"))
	for i := range many - 1 {
		deep = append(deep, of(api.NNot, i))
	}
	for _, n := range []int{300, 301, 1000, many} {
		wantLittle(t, "deep nodes", deep[:n])
	}
}

// TestOwnership overwrites what was printed, and prints it again as it is then.
func TestOwnership(t *testing.T) {
	l := nodes(t, "x=1 a b >f")
	text := print.Print(l)
	l[0].Sets[0], l[0].Words[1], l[0].Redirs[0].Word = "y=2", "c", "g"
	wantText(t, l, "y=2 a c >g")
	if text != "x=1 a b >f" {
		t.Errorf("the text became %q", text)
	}
	// What lies behind the lists, in their room, is left as it is.
	kids, room := []int{0, 1, 7, 8}, list(cmd("a"), cmd("b"), of(api.NAnd), cmd("c"))
	room[2].Kids = kids[:2]
	wantText(t, room[:3], "a && b")
	if kids[2] != 7 || kids[3] != 8 || room[3].Words[0] != "c" {
		t.Errorf("the room became %v, %v", kids, room)
	}
	// Those of a case are not moved together.
	minus := []int{-1, 0, -1, 1, -1}
	match := api.Node{Kind: api.NCase, Words: []string{"x"}, Pats: [][]string{{"p"}, {"q"}, {"r"}, {"s"}, {"t"}}, Kids: minus}
	wantText(t, list(cmd("a"), cmd("b"), match), "case x in (p);; (q) a;; (r);; (s) b;; (t);; esac")
	again, _, _ := parse.Parse("case x in (p);; (q) a;; (r);; (s) b;; (t);; esac")
	if !sameNode(again[2], match) {
		t.Errorf("the case became %v", match)
	}
}
