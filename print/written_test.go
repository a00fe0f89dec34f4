package print_test

import (
	"math/rand/v2"
	"slices"
	"strings"
	"testing"

	"almoner/api"
	"almoner/lex"
	"almoner/parse"
	"almoner/print"
)

// piece is a part of a script: its tokens as they are written, and the text that Print makes of it.
type piece struct {
	tokens []string
	text   string
	open   bool   // a reserved word right behind would belong to it
	back   bool   // it ends with what is not waited for
	chain  string // it is an `if` alone, without redirs: its text up to the `fi`
}

// writer makes random scripts, with compounds in them as long as some commands are left to write.
type writer struct {
	*rand.Rand
	left int
}

func newWriter(stream, seed uint64, left int) *writer {
	return &writer{rand.New(rand.NewPCG(stream, seed)), left}
}

func (w *writer) one(l ...string) string { return l[w.IntN(len(l))] }

// chance is true once in n times.
func (w *writer) chance(n int) bool { return w.IntN(n) == 0 }

func (w *writer) breaks() []string { return slices.Repeat([]string{"\n"}, max(0, w.IntN(6)-3)) }

func (w *writer) first() string {
	return w.one("a", "b1", "in", "-l", "*.c", "'if'", `\fi`, `"a  b"`, "$x", "$(a;  b)", "${x:-)}", "`a|b`", "$((1+(2)))", "7", "12", "=", "1=2", "{}", "[", "a#b", "c\\\nd", `\;`)
}

func (w *writer) set() string { return w.one("x=", "_1=b", "PATH=$a:'b  c'", "if=1", "x==") }

func (w *writer) word() string {
	return w.one(w.first(), w.set(), "!", "{", "}", "case", "do", "done", "elif", "else", "esac", "fi", "for", "if", "then", "while")
}

// redir writes one, and its text.
func (w *writer) redir() ([]string, string) {
	op, word := w.one("<", ">", ">>", "<&", ">&", "<>", ">|"), w.word()
	if w.chance(2) {
		op = w.one("0", "1", "2", "9") + op
	}
	return []string{op, word}, op + word
}

// redirs writes some behind a compound.
func (w *writer) redirs(x *piece) {
	for w.chance(4) {
		tokens, text := w.redir()
		x.tokens, x.text, x.chain = append(x.tokens, tokens...), x.text+" "+text, ""
	}
}

// simple writes sets ahead of words, and redirs anywhere, of which the text has them behind.
func (w *writer) simple() piece {
	var tokens, texts, behind []string
	redirs := func() {
		if w.chance(4) {
			l, text := w.redir()
			tokens, behind = append(tokens, l...), append(behind, text)
		}
	}
	add := func(word string) {
		tokens, texts = append(tokens, word), append(texts, word)
		redirs()
	}
	redirs()
	for w.chance(3) {
		add(w.set())
	}
	open := len(tokens) == 0 || w.chance(2)
	if open {
		add(w.first())
		for w.chance(2) {
			add(w.word())
		}
	}
	return piece{tokens: tokens, text: strings.Join(append(texts, behind...), " "), open: open}
}

func (w *writer) command(depth int) piece {
	w.left--
	if depth <= 1 || w.left < 0 || w.chance(3) {
		return w.simple()
	}
	if w.chance(6) {
		name, body := w.one("x", "_", "f1", "fi_"), w.compound(depth-2)
		return piece{tokens: slices.Concat([]string{name, "(", ")"}, w.breaks(), body.tokens), text: name + "() " + body.text}
	}
	return w.compound(depth - 1)
}

// compound writes one with its redirs, and lists of a depth in it.
func (w *writer) compound(depth int) piece {
	var x piece
	switch w.IntN(7) {
	case 0:
		x = between("{", w.ended(depth), "}")
	case 1:
		kid := w.list(depth)
		x = piece{tokens: slices.Concat([]string{"("}, kid.tokens, []string{")"}), text: "( " + kid.text + " )"}
	case 2:
		x = between(w.one("while", "until"), w.ended(depth), "")
		x = x.with(between("do", w.ended(depth), "done"))
	case 3:
		x = w.each().with(between("do", w.ended(depth), "done"))
	case 4:
		x = w.match(depth)
	default:
		x = w.choice(depth, "if")
		x.chain = x.text
		x = x.with(piece{tokens: []string{"fi"}, text: "fi"})
	}
	w.redirs(&x)
	return x
}

// with is x with what is right behind it.
func (x piece) with(behind piece) piece {
	x.tokens = slices.Concat(x.tokens, behind.tokens)
	x.text += behind.text
	return x
}

// ends is the text of a list with its end.
func (x piece) ends() string {
	if x.back {
		return x.text + " "
	}
	return x.text + "; "
}

// between writes a list between two words.
func between(left string, kid piece, right string) piece {
	x := piece{tokens: append([]string{left}, kid.tokens...), text: left + " " + kid.ends() + right}
	if right != "" {
		x.tokens = append(x.tokens, right)
	}
	return x
}

// each writes the head of a `for`.
func (w *writer) each() piece {
	name := w.one("x", "f1", "in", "do")
	x := piece{tokens: append([]string{"for", name}, w.breaks()...), text: "for " + name}
	if w.chance(2) {
		x.tokens, x.text = append(x.tokens, "in"), x.text+" in"
		for w.chance(2) {
			word := w.word()
			x.tokens, x.text = append(x.tokens, word), x.text+" "+word
		}
		x.tokens = append(x.tokens, w.one(";", "\n"))
	} else if w.chance(2) {
		x.tokens = append(x.tokens, ";")
	}
	x.tokens, x.text = append(x.tokens, w.breaks()...), x.text+"; "
	return x
}

// choice writes an `if` or `elif`, up to the `fi`.
func (w *writer) choice(depth int, word string) piece {
	x := between(word, w.ended(depth), "").with(between("then", w.ended(depth), ""))
	switch w.IntN(3) {
	case 0:
		return x.with(w.choice(depth, "elif"))
	case 1:
		other := w.ended(depth)
		if w.chance(2) {
			other = w.compound(depth)
		}
		if other.chain == "" {
			return x.with(between("else", other, ""))
		}
		return x.with(piece{tokens: append([]string{"else"}, other.tokens...), text: "el" + other.chain})
	}
	return x
}

func (w *writer) match(depth int) piece {
	word := w.word()
	x := piece{tokens: slices.Concat([]string{"case", word}, w.breaks(), []string{"in"}, w.breaks()), text: "case " + word + " in"}
	for more := w.chance(2); more; more = w.chance(2) {
		pat := w.word()
		if pat == "esac" || w.chance(2) {
			x.tokens = append(x.tokens, "(")
		}
		x.tokens, x.text = append(x.tokens, pat), x.text+" ("+pat
		for w.chance(3) {
			pat = w.word()
			x.tokens, x.text = append(x.tokens, "|", pat), x.text+" | "+pat
		}
		x.tokens, x.text = append(append(x.tokens, ")"), w.breaks()...), x.text+")"
		open := false
		if !w.chance(3) {
			kid := w.list(depth)
			x, open = x.with(piece{tokens: kid.tokens, text: " " + kid.text}), kid.open
		}
		x.text += ";;"
		if !open && w.chance(4) {
			break
		}
		x.tokens = append(append(x.tokens, ";;"), w.breaks()...)
	}
	return x.with(piece{tokens: []string{"esac"}, text: " esac"})
}

func (w *writer) pipe(depth int) piece {
	x := w.command(depth)
	for w.chance(5) {
		next := w.command(depth)
		x = piece{tokens: slices.Concat(x.tokens, []string{"|"}, w.breaks(), next.tokens), text: x.text + " | " + next.text, open: next.open}
	}
	if w.chance(8) {
		x.tokens, x.text, x.chain = append([]string{"!"}, x.tokens...), "! "+x.text, ""
	}
	return x
}

func (w *writer) item(depth int) piece {
	x := w.pipe(depth)
	for w.chance(5) {
		next, sign := w.pipe(depth), w.one("&&", "||")
		x = piece{tokens: slices.Concat(x.tokens, []string{sign}, w.breaks(), next.tokens), text: x.text + " " + sign + " " + next.text, open: next.open}
	}
	return x
}

// list writes a list, which may end without a separator.
func (w *writer) list(depth int) piece {
	x := w.item(depth)
	x.tokens = slices.Concat(w.breaks(), x.tokens)
	for {
		sign := w.one(";", "\n", "&", "")
		if sign == "" {
			return x
		}
		x.tokens, x.open = slices.Concat(x.tokens, []string{sign}, w.breaks()), false
		if x.back = sign == "&"; x.back {
			x.text, x.chain = x.text+" &", ""
		}
		if !w.chance(3) {
			return x
		}
		next := w.item(depth)
		x = piece{tokens: slices.Concat(x.tokens, next.tokens), text: x.ends() + next.text, open: next.open}
	}
}

// ended writes a list that a reserved word may follow.
func (w *writer) ended(depth int) piece {
	x := w.list(depth)
	if x.open {
		x.tokens, x.open = append(x.tokens, w.one(";", "\n")), false
	}
	return x
}

// join writes tokens behind each other, with comments ahead of line feeds.
func (w *writer) join(tokens []string) string {
	s := ""
	for _, x := range tokens {
		s += w.one(" ", " ", "\t", " \\\n", "  ")
		if x == "\n" && w.chance(3) {
			s += w.one("#", "# a | 'b", "#fi \\")
		}
		s += x
	}
	return s + w.one("", " ", " # end )")
}

// TestWritten asks for the texts of scripts as they were written.
func TestWritten(t *testing.T) {
	counts := map[api.Errno]int{}
	for seed := range uint64(12000) {
		w := newWriter(16, seed, 25)
		x := w.list(1 + w.IntN(7))
		s := w.join(x.tokens)
		l, at, err := parse.Parse(s)
		if counts[err]++; err != api.OK {
			if err != api.ErrLong && err != api.ErrMany {
				t.Errorf("Parse(%q): %v at %d", s, err, at)
			}
			continue
		}
		wantRight(t, s, l)
		if _, _, err = lex.All(x.text); err == api.OK {
			wantText(t, l, x.text)
		}
		if t.Failed() {
			return
		}
	}
	if counts[api.OK] < 9000 {
		t.Errorf("only %v", counts)
	}
}

// changes each change nodes a little.
var changes = []func(w *writer, l []api.Node, x *api.Node) []api.Node{
	func(w *writer, l []api.Node, x *api.Node) []api.Node { x.Kind = w.IntN(18); return l },
	func(w *writer, l []api.Node, x *api.Node) []api.Node {
		x.Kids = append(x.Kids, w.IntN(len(l)+2)-1)
		return l
	},
	func(w *writer, l []api.Node, x *api.Node) []api.Node {
		for i := range x.Kids {
			x.Kids[i] += w.IntN(3) - 1
		}
		return l
	},
	func(w *writer, l []api.Node, x *api.Node) []api.Node { x.Kids = cut(w, x.Kids); return l },
	func(w *writer, l []api.Node, x *api.Node) []api.Node { slices.Reverse(x.Kids); return l },
	func(w *writer, l []api.Node, x *api.Node) []api.Node { *x = l[w.IntN(len(l))]; return l },
	func(w *writer, l []api.Node, x *api.Node) []api.Node { return cut(w, l) },
	func(w *writer, l []api.Node, x *api.Node) []api.Node { return l[:w.IntN(len(l))] },
	func(w *writer, l []api.Node, x *api.Node) []api.Node { return append(l, *x) },
	func(w *writer, l []api.Node, x *api.Node) []api.Node {
		return append(l, of(1+w.IntN(15), len(l)-1))
	},
	func(w *writer, l []api.Node, x *api.Node) []api.Node {
		return append(l, cmd("a"), of(1+w.IntN(15), len(l)-1, len(l)))
	},
	func(w *writer, l []api.Node, x *api.Node) []api.Node { x.In = !x.In; return l },
	func(w *writer, l []api.Node, x *api.Node) []api.Node { x.Name = w.one("", "f", "if", "1"); return l },
	func(w *writer, l []api.Node, x *api.Node) []api.Node {
		x.Sets = append(x.Sets, w.one(w.set(), w.word()))
		return l
	},
	func(w *writer, l []api.Node, x *api.Node) []api.Node {
		x.Words = slices.Insert(x.Words, w.IntN(len(x.Words)+1), w.one(w.set(), w.word()))
		return l
	},
	func(w *writer, l []api.Node, x *api.Node) []api.Node { x.Sets = cut(w, x.Sets); return l },
	func(w *writer, l []api.Node, x *api.Node) []api.Node { x.Words = cut(w, x.Words); return l },
	func(w *writer, l []api.Node, x *api.Node) []api.Node { x.Redirs = cut(w, x.Redirs); return l },
	func(w *writer, l []api.Node, x *api.Node) []api.Node { x.Pats = cut(w, x.Pats); return l },
	func(w *writer, l []api.Node, x *api.Node) []api.Node {
		x.Pats = append(x.Pats, []string{w.word()})
		return l
	},
	func(w *writer, l []api.Node, x *api.Node) []api.Node {
		x.Pats, x.Kids = append(x.Pats, []string{w.word()}), append(x.Kids, -1)
		return l
	},
	func(w *writer, l []api.Node, x *api.Node) []api.Node {
		x.Redirs = append(x.Redirs, api.Redir{Fd: w.IntN(13) - 2, Op: w.one("<", ">", ">>", "|"), Word: w.word()})
		return l
	},
}

// cut leaves one out.
func cut[T any](w *writer, l []T) []T {
	if len(l) == 0 {
		return l
	}
	i := w.IntN(len(l))
	return slices.Delete(l, i, i+1)
}

// TestChanged holds the nodes of scripts of which a little was changed against the model.
func TestChanged(t *testing.T) {
	counts := map[bool]int{}
	for seed := range uint64(40000) {
		w := newWriter(61, seed, 8)
		l, _, _ := parse.Parse(w.join(w.list(1 + w.IntN(4)).tokens))
		for range 1 + w.IntN(2) {
			if len(l) > 0 {
				l = changes[w.IntN(len(changes))](w, l, &l[w.IntN(len(l))])
			}
		}
		counts[hold(t, l) != ""]++
		if t.Failed() {
			return
		}
	}
	if min(counts[true], counts[false]) < 8000 {
		t.Errorf("only %v", counts)
	}
}

// TestAnyNodes asks for an end, and twice the same one, whatever the nodes are.
func TestAnyNodes(t *testing.T) {
	for seed := range uint64(30000) {
		w := newWriter(93, seed, 0)
		var l []api.Node
		for range w.IntN(8) {
			node := api.Node{Kind: w.IntN(18) - 1, Name: w.one("", "f"), In: w.chance(3)}
			for range w.IntN(4) {
				node.Kids = append(node.Kids, w.IntN(len(l)+4)-2)
			}
			for w.chance(2) {
				node.Sets, node.Words = append(node.Sets, w.one(w.set(), w.word())), append(node.Words, w.word())
			}
			for w.chance(2) {
				node.Pats = append(node.Pats, []string{w.word(), w.word()}[:w.IntN(3)])
				node.Redirs = append(node.Redirs, api.Redir{Fd: w.IntN(14) - 3, Op: w.one("<", ">", "|", ""), Word: w.word()})
			}
			l = append(l, node)
		}
		text := hold(t, l)
		if again := print.Print(l); again != text {
			t.Errorf("Print(%v) = %q, and then %q", l, text, again)
		}
	}
}
