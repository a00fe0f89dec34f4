package parse_test

import (
	"math/rand/v2"
	"regexp"
	"slices"
	"testing"

	"almoner/api"
	"almoner/lex"
	"almoner/parse"
)

// piece is a part of a script in tokens, what it has to become, and whether a reserved word right behind it would belong to it.
type piece struct {
	text []string
	tree *tree
	open bool
}

// writer makes random scripts, with compounds in them as long as some commands are left to write.
type writer struct {
	*rand.Rand
	left int
}

func newWriter(stream, seed uint64, left int) *writer {
	return &writer{rand.New(rand.NewPCG(stream, seed)), left}
}

func (w *writer) one(l ...string) string { return l[w.IntN(len(l))] }

// chance is true once in n times.
func (w *writer) chance(n int) bool { return w.IntN(n) == 0 }

func (w *writer) breaks() []string {
	return slices.Repeat([]string{"\n"}, max(0, w.IntN(6)-3))
}

// word writes any word, reserved or not, and first one that can be the first word of a command.
func (w *writer) word() string {
	return w.one(w.first(), w.set(), w.one("!", "{", "}", "case", "do", "done", "elif", "else", "esac", "fi", "for", "if", "in", "then", "until", "while"))
}

func (w *writer) first() string {
	return w.one("a", "b1", "_", "in", "-l", "*.c", "'if'", `\fi`, `"a b"`, "$x", "$(a; b)", "${x:-)}", "`a|b`", "$((1+(2)))", "7", "12", "=", "1=2", "{}", "x+=1", "[", "~/x", "a#b")
}

func (w *writer) set() string {
	return w.one("x=", "_1=b", "PATH=$a:'b c'", "if=1", "x==", `y="$(a)"`)
}

func (w *writer) name() string { return w.one("x", "_", "f1", "Name", "fi_") }

// redirs writes up to n of them for x.
func (w *writer) redirs(n int, x *tree) []string {
	var text []string
	for range w.IntN(n + 1) {
		fd, op, word := w.IntN(20)-10, w.one("<", ">", ">>", "<&", ">&", "<>", ">|"), w.word()
		if fd < 0 {
			fd = -1
			text = append(text, op, word)
		} else {
			text = append(text, string("0123456789"[fd])+op, word)
		}
		x.to(fd, op, word)
	}
	return text
}

func (w *writer) simple() piece {
	x := piece{tree: cmd()}
	for w.chance(3) {
		set := w.set()
		x.text = append(x.text, set)
		x.text = append(x.text, w.redirs(1, x.tree.set(set))...)
	}
	if len(x.text) > 0 && w.chance(2) {
		return x
	}
	x.text = append(x.text, w.redirs(1, x.tree)...)
	word := w.first()
	for more := true; more; more = w.chance(2) {
		x.text = append(x.text, word)
		x.tree.Words = append(x.tree.Words, word)
		x.text = append(x.text, w.redirs(1, x.tree)...)
		word = w.word()
	}
	x.open = true
	return x
}

func (w *writer) command(depth int) piece {
	w.left--
	if depth <= 1 || w.left < 0 || w.chance(3) {
		return w.simple()
	}
	if w.chance(6) {
		name, body := w.name(), w.compound(depth-2)
		return piece{text: slices.Concat([]string{name, "(", ")"}, w.breaks(), body.text), tree: fun(name, body.tree)}
	}
	return w.compound(depth - 1)
}

// compound writes one with its redirs, and lists of a depth in it.
func (w *writer) compound(depth int) piece {
	x := w.loops(depth)
	switch w.IntN(5) {
	case 0:
		kid := w.ended(depth)
		x = piece{text: slices.Concat([]string{"{"}, kid.text, []string{"}"}), tree: group(kid.tree)}
	case 1:
		kid := w.list(depth)
		x = piece{text: slices.Concat([]string{"("}, kid.text, []string{")"}), tree: sub(kid.tree)}
	case 2:
		x = w.choice(depth, "if")
		x.text = append(x.text, "fi")
	case 3:
		x = w.match(depth)
	}
	x.text = append(x.text, w.redirs(w.IntN(3), x.tree)...)
	return x
}

func (w *writer) loops(depth int) piece {
	body := w.ended(depth)
	do := slices.Concat([]string{"do"}, body.text, []string{"done"})
	switch w.IntN(4) {
	case 0:
		a := w.ended(depth)
		return piece{text: slices.Concat([]string{"while"}, a.text, do), tree: while(a.tree, body.tree)}
	case 1:
		a := w.ended(depth)
		return piece{text: slices.Concat([]string{"until"}, a.text, do), tree: until(a.tree, body.tree)}
	}
	name := w.one(w.name(), "in", "do", "if")
	head := append([]string{"for", name}, w.breaks()...)
	if w.chance(2) {
		if w.chance(2) {
			head = append(append(head, ";"), w.breaks()...)
		}
		return piece{text: append(head, do...), tree: each(name, body.tree)}
	}
	var words []string
	for range w.IntN(4) {
		words = append(words, w.word())
	}
	return piece{text: slices.Concat(head, []string{"in"}, words, []string{w.one(";", "\n")}, w.breaks(), do), tree: among(name, body.tree, words...)}
}

// choice writes an `if` or `elif` up to its end, which is one for all of them.
func (w *writer) choice(depth int, first string) piece {
	a, b := w.ended(depth), w.ended(depth)
	x := piece{text: slices.Concat([]string{first}, a.text, []string{"then"}, b.text), tree: choice(a.tree, b.tree)}
	switch w.IntN(4) {
	case 0:
		c := w.ended(depth)
		x.text = slices.Concat(x.text, []string{"else"}, c.text)
		x.tree.kids = append(x.tree.kids, c.tree)
	case 1:
		c := w.choice(depth, "elif")
		x.text = append(x.text, c.text...)
		x.tree.kids = append(x.tree.kids, c.tree)
	}
	return x
}

func (w *writer) match(depth int) piece {
	word := w.word()
	x := piece{text: slices.Concat([]string{"case", word}, w.breaks(), []string{"in"}, w.breaks()), tree: match(word)}
	for n := w.IntN(4); n > 0; n-- {
		l := []string{w.word()}
		if w.chance(2) || l[0] == "esac" {
			x.text = append(x.text, "(")
		}
		x.text = append(x.text, l[0])
		for w.chance(3) {
			l = append(l, w.word())
			x.text = append(x.text, "|", l[len(l)-1])
		}
		x.text = slices.Concat(x.text, []string{")"}, w.breaks())
		kid := piece{}
		last := n == 1 && w.chance(2)
		if !w.chance(4) {
			if kid = w.list(depth); last {
				kid = w.ended(depth)
			}
		}
		x.text = append(x.text, kid.text...)
		x.tree.item(kid.tree, l...)
		if !last {
			x.text = slices.Concat(x.text, []string{";;"}, w.breaks())
		}
	}
	x.text = append(x.text, "esac")
	return x
}

func (w *writer) pipe(depth int) piece {
	x := w.command(depth)
	l := []*tree{x.tree}
	for w.chance(5) {
		next := w.command(depth)
		x = piece{text: slices.Concat(x.text, []string{"|"}, w.breaks(), next.text), open: next.open}
		l = append(l, next.tree)
	}
	if x.tree = l[0]; len(l) > 1 {
		x.tree = pipe(l...)
	}
	if w.chance(6) {
		x.text, x.tree = append([]string{"!"}, x.text...), not(x.tree)
	}
	return x
}

func (w *writer) item(depth int) piece {
	x := w.pipe(depth)
	for w.chance(5) {
		next, sign := w.pipe(depth), w.one("&&", "||")
		x.text = slices.Concat(x.text, []string{sign}, w.breaks(), next.text)
		x.open = next.open
		if sign == "&&" {
			x.tree = and(x.tree, next.tree)
		} else {
			x.tree = or(x.tree, next.tree)
		}
	}
	return x
}

// list writes a list, which may end without a separator.
func (w *writer) list(depth int) piece {
	x := piece{text: w.breaks()}
	var items []*tree
	for more := true; more; more = !x.open && w.chance(3) {
		next := w.item(depth)
		x.text = append(x.text, next.text...)
		sign := w.one(";", "\n", "&", "")
		if sign == "&" {
			next.tree = back(next.tree)
		}
		items = append(items, next.tree)
		if sign == "" {
			x.open = next.open
			break
		}
		x.text = slices.Concat(x.text, []string{sign}, w.breaks())
	}
	if x.tree = seq(items...); len(items) == 1 && items[0].Kind != api.NBack {
		x.tree = items[0]
	}
	return x
}

// ended writes a list that a reserved word may follow.
func (w *writer) ended(depth int) piece {
	x := w.list(depth)
	if x.open {
		x.text = append(x.text, w.one(";", "\n"))
	}
	return x
}

var (
	endsInSign   = regexp.MustCompile(`^[0-9]?[|&;<>()\n]+$`)
	beginsInSign = regexp.MustCompile(`^[|&;<>()\n]+$`)
	digit        = regexp.MustCompile(`^[0-9]$`)
)

// glued reports whether two tokens need nothing between them.
func glued(a, b string) bool {
	first, second := endsInSign.MatchString(a), beginsInSign.MatchString(b)
	if digit.MatchString(a) && redirect.MatchString(b) {
		return false
	}
	return first != second || a == "\n" || b == "\n" || b == "(" || b == ")"
}

// join writes tokens behind each other, with comments ahead of line feeds.
func (w *writer) join(tokens []string) string {
	s := ""
	for i, x := range tokens {
		gap := w.one(" ", " ", "\t", " \\\n", "  ", "")
		if gap == "" && i > 0 && !glued(tokens[i-1], x) {
			gap = " "
		}
		if x == "\n" && w.chance(3) {
			gap += w.one(" #", " # a | 'b", "\t#fi \\")
		}
		s += gap + x
	}
	return s + w.one("", "", " ", " # end )")
}

// TestWritten asks for the nodes of scripts as they were written.
func TestWritten(t *testing.T) {
	right := 0
	for seed := range uint64(20000) {
		w := newWriter(15, seed, 25)
		x := w.list(1 + w.IntN(7))
		s := w.join(x.text)
		if _, at, err := lex.All(s); err != api.OK {
			wantError(t, s, at, err)
			continue
		}
		wantList(t, s, x.tree.list(nil))
		right++
		if t.Failed() {
			return
		}
	}
	if right < 15000 {
		t.Errorf("only %d scripts", right)
	}
}

// TestChanged holds scripts of which a few tokens were changed against the model.
func TestChanged(t *testing.T) {
	c := chart{t: t}
	counts := map[api.Errno]int{}
	for seed := range uint64(3000) {
		w := newWriter(51, seed, 8)
		text := w.list(2 + w.IntN(5)).text
		for range w.IntN(3) {
			at := w.IntN(len(text) + 1)
			behind := text[min(len(text), at+w.IntN(2)):]
			if w.chance(2) {
				behind = append([]string{all[w.IntN(len(all))]}, behind...)
			}
			text = slices.Concat(text[:at], behind)
		}
		if w.chance(4) {
			text = text[:w.IntN(len(text)+1)]
		}
		counts[c.want(w.join(text))]++
		if t.Failed() {
			return
		}
	}
	if min(counts[api.OK], counts[api.ErrForm], counts[api.ErrMore]) < 200 {
		t.Errorf("only %v", counts)
	}
}

// TestDepths nests compounds and functions of all kinds about as deep as they may be, and holds that against the model.
func TestDepths(t *testing.T) {
	c := chart{t: t}
	counts := map[api.Errno]int{}
	for seed := range uint64(800) {
		w := newWriter(25, seed, 0)
		left, right := "", ""
		for range 18 + w.IntN(8) {
			x := small
			if w.chance(3) {
				x = compounds[w.IntN(len(compounds))]
			}
			if w.chance(8) {
				left += w.name() + w.one("() ", " ( )\n")
			}
			left, right = left+x.left, x.right+right
		}
		s := left + w.one("a", "a", "f() (a)", "{ a; }", "f()", "(", "") + right
		if w.chance(3) {
			s = s[:w.IntN(len(s))]
		}
		counts[c.want(s)]++
		if t.Failed() {
			return
		}
	}
	if min(counts[api.OK], counts[api.ErrForm], counts[api.ErrMore]) < 100 {
		t.Errorf("only %v", counts)
	}
}

// TestAnyBytes asks for an end, and twice the same one, whatever the bytes are.
func TestAnyBytes(t *testing.T) {
	for seed := range uint64(20000) {
		w := newWriter(99, seed, 0)
		s := ""
		for range w.IntN(40) {
			if s += w.one(" ", " ", all[w.IntN(len(all))]); w.chance(4) {
				s += string([]byte{byte(w.IntN(256))})
			}
		}
		l, at, err := parse.Parse(s)
		again, at2, err2 := parse.Parse(s)
		if !slices.EqualFunc(l, again, sameNode) || at != at2 || err != err2 {
			t.Errorf("Parse(%q) = %v, %d, %v, and then %v, %d, %v", s, l, at, err, again, at2, err2)
		}
		if err != api.OK && (len(l) > 0 || at < 0 || at > len(s)) || err == api.OK && at != 0 {
			t.Errorf("Parse(%q) = %v, %d, %v", s, l, at, err)
		}
	}
}
