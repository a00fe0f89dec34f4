package print_test

import (
	"fmt"
	"slices"
	"testing"

	"almoner/api"
	"almoner/lex"
	"almoner/parse"
	"almoner/print"
)

// model tells the text of nodes by the table of the chapter. It panics where a kid is lacking.
type model []api.Node

func (l model) text(i int) string {
	node := l[i]
	kid := func(n int) string { return l.text(node.Kids[n]) }
	list := func(n int) string {
		if s := kid(n); l.goesOn(node.Kids[n]) {
			return s + " "
		} else {
			return s + "; "
		}
	}
	switch node.Kind {
	case api.NCmd:
		return joined(slices.Concat(node.Sets, node.Words, redirs(node)), " ")
	case api.NNot:
		return "! " + kid(0)
	case api.NBack:
		return kid(0) + " &"
	case api.NFunc:
		return node.Name + "() " + kid(0)
	case api.NSeq:
		s := ""
		for n, k := range node.Kids {
			if s += kid(n); n == len(node.Kids)-1 {
				break
			} else if l[k].Kind != api.NBack {
				s += ";"
			}
			s += " "
		}
		return s
	case api.NPipe, api.NAnd, api.NOr:
		var kids []string
		for n := range node.Kids {
			kids = append(kids, kid(n))
		}
		return joined(kids, map[int]string{api.NPipe: " | ", api.NAnd: " && ", api.NOr: " || "}[node.Kind])
	}
	return joined(append([]string{l.compound(node, kid, list)}, redirs(node)...), " ")
}

// goesOn reports whether a node is one, or ends with one, that is not waited for.
func (l model) goesOn(i int) bool {
	kids := l[i].Kids
	return l[i].Kind == api.NBack || l[i].Kind == api.NSeq && l[kids[len(kids)-1]].Kind == api.NBack
}

func (l model) compound(node api.Node, kid, list func(int) string) string {
	switch node.Kind {
	case api.NGroup:
		return "{ " + list(0) + "}"
	case api.NSub:
		return "( " + kid(0) + " )"
	case api.NIf:
		s := "if " + list(0) + "then " + list(1)
		if len(node.Kids) == 2 {
			return s + "fi"
		}
		if third := l[node.Kids[2]]; third.Kind == api.NIf && len(third.Redirs) == 0 {
			return s + "el" + kid(2)
		}
		return s + "else " + list(2) + "fi"
	case api.NWhile:
		return "while " + list(0) + "do " + list(1) + "done"
	case api.NUntil:
		return "until " + list(0) + "do " + list(1) + "done"
	case api.NFor:
		words := []string{"for", node.Name}
		if node.In {
			words = slices.Concat(words, []string{"in"}, node.Words)
		}
		return joined(words, " ") + "; do " + list(0) + "done"
	case api.NCase:
		s := "case " + joined(node.Words[:min(1, len(node.Words))], "") + " in"
		for n, pats := range node.Pats {
			if s += " (" + joined(pats, " | ") + ")"; node.Kids[n] != -1 {
				s += " " + kid(n)
			}
			s += ";;"
		}
		return s + " esac"
	}
	return ""
}

func joined(l []string, gap string) string {
	s := ""
	for i, x := range l {
		if i > 0 {
			s += gap
		}
		s += x
	}
	return s
}

func redirs(node api.Node) []string {
	var l []string
	for _, x := range node.Redirs {
		fd := fmt.Sprint(x.Fd)
		if len(fd) != 1 {
			fd = ""
		}
		l = append(l, fd+x.Op+x.Word)
	}
	return l
}

// order lists a node behind all nodes of its kids. It panics where one can't be a kid, and where there are too many.
func (l model) order(i int, before []int) []int {
	for _, kid := range l[i].Kids {
		if kid == -1 && l[i].Kind == api.NCase {
			continue
		}
		if kid >= i || len(before) > len(l) {
			panic("no order")
		}
		before = l.order(kid, before)
	}
	return append(before, i)
}

// wanted is Print, by the model.
func (l model) wanted() (s string) {
	defer func() {
		if recover() != nil {
			s = ""
		}
	}()
	if order := l.order(len(l)-1, nil); len(l) > 300 || len(order) != len(l) || !slices.IsSorted(order) {
		return ""
	}
	text := l.text(len(l) - 1)
	again, _, err := parse.Parse(text)
	if len(text) > 4096 || err != api.OK || !slices.EqualFunc(again, l, sameNode) {
		return ""
	}
	return text
}

// hold holds Print against the model, and returns the text.
func hold(t *testing.T, l []api.Node) string {
	t.Helper()
	want := model(l).wanted()
	wantText(t, l, want)
	return want
}

// places are the kinds that the grammar permits somewhere.
type places []int

var (
	compounds = places{api.NGroup, api.NSub, api.NIf, api.NWhile, api.NUntil, api.NFor, api.NCase}
	commands  = append(places{api.NCmd, api.NFunc}, compounds...)
	unpiped   = append(places{api.NPipe}, commands...)
	pipes     = append(places{api.NNot}, unpiped...)
	items     = append(places{api.NAnd, api.NOr}, pipes...)
	parts     = append(places{api.NBack}, items...)
	lists     = append(places{api.NSeq}, items...)
)

// all reports whether the kinds of some kids are all of them permitted.
func (p places) all(l []api.Node, kids ...int) bool {
	for _, kid := range kids {
		if kid >= 0 && !slices.Contains(p, l[kid].Kind) {
			return false
		}
	}
	return true
}

// derives reports whether a rule of the grammar makes a node of its kids.
func derives(l []api.Node, node api.Node) bool {
	kids := node.Kids
	n := len(kids)
	switch node.Kind {
	case api.NCmd:
		return n == 0
	case api.NNot:
		return n == 1 && unpiped.all(l, kids...)
	case api.NPipe:
		return n >= 2 && commands.all(l, kids...)
	case api.NAnd, api.NOr:
		return n == 2 && items.all(l, kids[0]) && pipes.all(l, kids[1])
	case api.NBack:
		return n == 1 && items.all(l, kids...)
	case api.NSeq:
		return n >= 1 && parts.all(l, kids...) && (n > 1 || l[kids[0]].Kind == api.NBack)
	case api.NFunc:
		return n == 1 && compounds.all(l, kids...)
	case api.NIf:
		return (n == 2 || n == 3) && lists.all(l, kids...)
	case api.NWhile, api.NUntil:
		return n == 2 && lists.all(l, kids...)
	case api.NCase:
		return lists.all(l, kids...)
	}
	return n == 1 && lists.all(l, kids...)
}

// made is a node of a kind, or of one of the kinds 16 to 20 that stand for others of the same kinds.
func made(kind int, kids []int) api.Node {
	node := api.Node{Kind: kind, Kids: slices.Clone(kids)}
	switch kind {
	case api.NCmd:
		node.Words = []string{"a"}
	case 16:
		node.Kind, node.Sets, node.Redirs = api.NCmd, []string{"x=1"}, []api.Redir{{Fd: 2, Op: ">", Word: "f"}}
	case api.NFor, api.NFunc:
		node.Name = "f"
	case 17:
		node.Kind, node.Name, node.In, node.Words = api.NFor, "x", true, []string{"b", "c"}
	case 18:
		node.Kind, node.Redirs = api.NIf, []api.Redir{{Fd: -1, Op: "<", Word: "g"}}
	case 19:
		node.Kind, node.Kids = api.NCase, append([]int{-1}, kids...)
	case 20:
		node.Kind, node.Kids = api.NCase, append(node.Kids, -1)
	}
	if node.Kind == api.NCase {
		node.Words = []string{"w"}
		for range node.Kids {
			node.Pats = append(node.Pats, []string{"p", "q"})
		}
	}
	return node
}

// TestTrees asks for the text of all trees of up to five nodes that the grammar makes, and for none of the others of up to four.
func TestTrees(t *testing.T) {
	counts := map[bool]int{}
	var grow func(n, kinds int, wrong bool, l []api.Node, whole []int, right bool)
	grow = func(n, kinds int, wrong bool, l []api.Node, whole []int, right bool) {
		if len(whole) == 1 {
			root := right && lists.all(l, len(l)-1)
			if text := print.Print(l); (text != "") != root || root && text != model(l).text(len(l)-1) {
				t.Errorf("Print(%v) = %q", l, text)
			}
			counts[root]++
		}
		if len(l) == n || t.Failed() {
			return
		}
		for kind := 1; kind <= kinds; kind++ {
			for rest := range len(whole) + 1 {
				node := made(kind, whole[rest:])
				if fits := derives(l, node); fits || wrong {
					grow(n, kinds, wrong, append(slices.Clip(l), node), append(slices.Clone(whole[:rest]), len(l)), right && fits)
				}
			}
		}
	}
	grow(4, 15, true, nil, nil, true)
	grow(5, 20, false, nil, nil, true)
	if counts[true] < 20000 || counts[false] < 200000 {
		t.Errorf("only %v", counts)
	}
}

// TestAllKids gives up to three nodes all lists of kids, most of which are out of order.
func TestAllKids(t *testing.T) {
	kids := [][]int{{}}
	for i := -2; i <= 3; i++ {
		kids = append(kids, []int{i})
		for j := -2; j <= 3; j++ {
			kids = append(kids, []int{i, j})
		}
	}
	kids = append(kids, []int{0, 1, 2}, []int{0, -1, 1}, []int{-1, 0, -1, 1, -1}, []int{0, 1, 0}, []int{0, 1, 1}, []int{1, 0, 1})
	counts := map[bool]int{}
	for _, first := range kids {
		for _, second := range kids {
			for _, third := range kids {
				l := list(fitting(first), fitting(second), fitting(third))
				counts[hold(t, l) != ""]++
				// All are cases.
				for i, k := range [][]int{first, second, third} {
					l[i] = made(api.NCase, k)
				}
				counts[hold(t, l) != ""]++
				counts[hold(t, l[:2]) != ""]++
			}
		}
		if t.Failed() {
			return
		}
	}
	if counts[true] < 100 {
		t.Errorf("only %v", counts)
	}
}

// fitting is a node of a kind that has that many kids.
func fitting(kids []int) api.Node {
	return made([]int{api.NCmd, api.NGroup, api.NWhile, api.NIf, api.NPipe, api.NPipe}[len(kids)], kids)
}

// TestShortScripts asks for a text of all right scripts of up to five tokens.
func TestShortScripts(t *testing.T) {
	tokens := []string{"a", "x=1", ";", "\n", "&", "&&", "||", "|", "(", ")", "{", "}", "!", "if", "for", "in", "case", "esac", ";;", ">", "2<", "'b'"}
	right := 0
	var grow func(s string, n int)
	grow = func(s string, n int) {
		l, _, err := parse.Parse(s)
		if err == api.OK && len(l) > 0 {
			wantRight(t, s, l)
			right++
		}
		if err == api.ErrForm || n == 0 || t.Failed() {
			return // Nothing behind a wrong token makes it right.
		}
		for _, token := range tokens {
			grow(s+token+" ", n-1)
		}
	}
	grow("", 5)
	if right < 50000 {
		t.Errorf("only %d scripts", right)
	}
}

// wantRight asks for a text of what Parse returned of a script: that of the model, and the same again.
func wantRight(t *testing.T, s string, l []api.Node) {
	t.Helper()
	text := model(l).text(len(l) - 1)
	if _, _, err := lex.All(text); err == api.ErrLong || err == api.ErrMany {
		wantNone(t, l)
		return
	}
	if got := print.Print(l); got != text || got == "" {
		t.Errorf("Print of %q: %q; want %q", s, got, text)
	}
	again, _, err := parse.Parse(text)
	if err != api.OK || !slices.EqualFunc(again, l, sameNode) {
		t.Errorf("Parse of %q, the text of %q: %v, %v; want %v", text, s, again, err, l)
	}
}
