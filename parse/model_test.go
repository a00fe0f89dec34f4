package parse_test

import (
	"regexp"
	"slices"
	"strings"
	"testing"

	"almoner/api"
	"almoner/lex"
	"almoner/parse"
)

// grammar is that of the chapter, written so that each script has one derivation only. What ends with 1 ends with the words of a simple command, to which a reserved word right behind would belong; what ends with 0 does not. A line is a rule, its forms are parted by slashes, and texts in quotes are tokens.
const grammar = `
script = breaks END / list0 END / list1 END
breaks = / breaks LF
list0 = breaks seq0
list1 = breaks seq1
seq0 = ended / item0 / ended item0
seq1 = item1 / ended item1
ended = item sep breaks / ended item sep breaks
sep = ';' / '&' / LF
item = item0 / item1
item0 = pipe0 / item join breaks pipe0
item1 = pipe1 / item join breaks pipe1
join = '&&' / '||'
pipe0 = cmds0 / '!' cmds0
pipe1 = cmds1 / '!' cmds1
cmds0 = cmd0 / cmds0 '|' breaks cmd0 / cmds1 '|' breaks cmd0
cmds1 = cmd1 / cmds0 '|' breaks cmd1 / cmds1 '|' breaks cmd1
cmd0 = body / function / ahead
cmd1 = LONE rest / ahead FIRST rest
ahead = SET / redir / ahead SET / ahead redir
rest = / rest WORD / rest redir
redir = OP target / IO OP target
target = WORD / IO
body = compound / body redir
function = CALL '(' ')' breaks body
compound = '{' list0 '}' / '(' list0 ')' / '(' list1 ')'
compound = 'if' list0 'then' list0 else 'fi'
compound = 'while' list0 'do' list0 'done' / 'until' list0 'do' list0 'done'
compound = 'for' NAME breaks 'do' list0 'done' / 'for' NAME breaks ';' breaks 'do' list0 'done'
compound = 'for' NAME breaks 'in' words ';' breaks 'do' list0 'done' / 'for' NAME breaks 'in' words LF breaks 'do' list0 'done'
compound = 'case' WORD breaks 'in' breaks items 'esac' / 'case' WORD breaks 'in' breaks items last 'esac'
else = / 'else' list0 / 'elif' list0 'then' list0 else
words = / words WORD
items = / items pats ';;' breaks / items pats seq0 ';;' breaks / items pats seq1 ';;' breaks
last = pats / pats seq0
pats = '(' alts ')' breaks / bare ')' breaks
alts = WORD / alts '|' WORD
bare = PLAIN / bare '|' WORD
`

var (
	oneWord  = regexp.MustCompile(`^[A-Za-z_][A-Za-z_0-9]*$`)
	oneSet   = regexp.MustCompile(`^[A-Za-z_][A-Za-z_0-9]*=`)
	keyword  = regexp.MustCompile(`^(!|\{|\}|case|do|done|elif|else|esac|fi|for|if|in|then|until|while)$`)
	redirect = regexp.MustCompile(`^[<>]`)
)

// is reports whether a token, with another one behind it, can be a sign of the grammar.
func is(sign string, x, behind api.Token) bool {
	if x.Kind != api.TokWord {
		return sign == "END" && x.Kind == api.TokEnd || sign == "LF" && x.Text == "\n" || sign == "IO" && x.Kind == api.TokIO ||
			sign == "OP" && x.Kind == api.TokSign && redirect.MatchString(x.Text) || sign == "'"+x.Text+"'"
	}
	first := (!keyword.MatchString(x.Text) || x.Text == "in") && !oneSet.MatchString(x.Text)
	call := behind.Text == "(" && oneWord.MatchString(x.Text) && !keyword.MatchString(x.Text)
	switch sign {
	case "WORD":
		return true
	case "PLAIN":
		return x.Text != "esac"
	case "NAME":
		return oneWord.MatchString(x.Text)
	case "CALL":
		return call
	case "FIRST":
		return first
	case "LONE":
		return first && !call
	case "SET":
		return oneSet.MatchString(x.Text)
	}
	return sign == "'"+x.Text+"'"
}

// rule is a form of a symbol, of which the symbols with rules of their own are told apart from tokens.
type rule struct {
	left  string
	form  []string
	rules [][]int // for each symbol its rules, or none for a token
	nests bool    // what is in it is within one more compound or function
}

// rules are those of the grammar, of which the first ones are the script's.
var rules = func() []*rule {
	var l []*rule
	byLeft := map[string][]int{}
	for line := range strings.Lines(grammar[1:]) {
		left, right, _ := strings.Cut(strings.TrimSuffix(line, "\n"), " =")
		for form := range strings.SplitSeq(right, " /") {
			byLeft[left] = append(byLeft[left], len(l))
			l = append(l, &rule{left: left, form: strings.Fields(form), nests: nests(left)})
		}
	}
	for _, x := range l {
		for _, symbol := range x.form {
			x.rules = append(x.rules, byLeft[symbol])
		}
	}
	return l
}()

func nests(symbol string) bool { return symbol == "compound" || symbol == "function" }

// state is a rule of which a part has been found, from a place on, within a number of compounds and functions.
type state struct{ rule, done, from, deep int }

// next is what s asks for next, nothing at its end.
func (s state) next() string {
	if x := rules[s.rule]; s.done < len(x.form) {
		return x.form[s.done]
	}
	return ""
}

// within is how many compounds and functions there are around what s asks for.
func (s state) within() int {
	if rules[s.rule].nests {
		return s.deep + 1
	}
	return s.deep
}

// further is s behind what it asks for next.
func (s state) further() state {
	s.done++
	return s
}

// found is what has been found of a form: what came ahead of its last symbol, and that one.
type found struct {
	ahead *found
	last  *derived
}

func (f *found) all() []*derived {
	if f == nil {
		return nil
	}
	return append(f.ahead.all(), f.last)
}

// derived is a symbol with what it was derived from, or a token.
type derived struct {
	left  string
	token api.Token
	kids  []*derived
}

// goal is a symbol within a number of compounds and functions.
type goal struct {
	symbol string
	deep   int
}

// chart tells for each place in the tokens which states are possible there, and which of them ask for a goal.
type chart struct {
	t      *testing.T
	tokens []api.Token
	sets   []map[state]*found
	asking []map[goal][]state
	whole  *derived
}

// keep forgets what hangs on tokens that are not the same as those so far.
func (c *chart) keep(tokens []api.Token) {
	n := 0
	for n < min(len(tokens), len(c.tokens), len(c.sets)) && tokens[n] == c.tokens[n] {
		n++
	}
	c.tokens, c.sets, c.asking, c.whole = tokens, c.sets[:n], c.asking[:n], nil
}

// begin makes room for a place.
func (c *chart) begin() {
	c.sets = append(c.sets, map[state]*found{})
	c.asking = append(c.asking, map[goal][]state{})
}

// fill finds all states of the last place behind some that are there.
func (c *chart) fill(work []state) {
	at := len(c.sets) - 1
	set, asking, empty := c.sets[at], c.asking[at], map[goal]*derived{}
	add := func(s state, f *found) {
		if was, is := set[s]; !is {
			set[s] = f
			work = append(work, s)
		} else if f != nil && (was == nil || *was != *f) {
			c.t.Errorf("%v: %v of %v has two derivations", c.tokens, s, rules[s.rule])
		}
	}
	for len(work) > 0 {
		s := work[len(work)-1]
		work = work[:len(work)-1]
		if symbol := s.next(); symbol != "" {
			g := goal{symbol, s.within()}
			asking[g] = append(asking[g], s)
			for _, i := range rules[s.rule].rules[s.done] {
				if !nests(symbol) || g.deep <= 24 {
					add(state{rule: i, from: at, deep: g.deep}, nil)
				}
			}
			if x := empty[g]; x != nil {
				add(s.further(), &found{set[s], x})
			}
			continue
		}
		g := goal{rules[s.rule].left, s.deep}
		x := &derived{left: g.symbol, kids: set[s].all()}
		if g.symbol == "script" {
			c.whole = x
		}
		if s.from == at {
			empty[g] = x
		}
		for _, y := range c.asking[s.from][g] {
			add(y.further(), &found{c.sets[s.from][y], x})
		}
	}
}

// derive finds the derivation of a script, or the first token with which there is none.
func (c *chart) derive(tokens []api.Token) int {
	c.keep(tokens)
	if len(c.sets) == 0 {
		c.begin()
		var work []state
		for i, x := range rules {
			if x.left == "script" {
				work = append(work, state{rule: i})
				c.sets[0][state{rule: i}] = nil
			}
		}
		c.fill(work)
	}
	for i := len(c.sets) - 1; i < len(tokens); i++ {
		if !c.scan(i) {
			c.sets, c.asking = c.sets[:i+1], c.asking[:i+1]
			return i
		}
	}
	return -1
}

// scan goes on behind token i, if it is possible there.
func (c *chart) scan(i int) bool {
	var behind api.Token
	if i+1 < len(c.tokens) {
		behind = c.tokens[i+1]
	}
	c.begin()
	can := map[string]bool{}
	x := &derived{token: c.tokens[i]}
	var work []state
	for s, f := range c.sets[i] {
		symbol := s.next()
		if symbol == "" || rules[s.rule].rules[s.done] != nil {
			continue
		}
		if _, asked := can[symbol]; !asked {
			can[symbol] = is(symbol, c.tokens[i], behind)
		}
		if can[symbol] {
			c.sets[i+1][s.further()] = &found{f, x}
			work = append(work, s.further())
		}
	}
	c.fill(work)
	return len(work) > 0
}

// parts are the derived ones of some symbols. Within them it looks for no others.
func (x *derived) parts(symbols ...string) []*derived {
	var l []*derived
	for _, kid := range x.kids {
		if slices.Contains(symbols, kid.left) {
			l = append(l, kid)
		} else {
			l = append(l, kid.parts(symbols...)...)
		}
	}
	return l
}

// texts are those of the tokens of which something was derived.
func (x *derived) texts() []string {
	if x.left == "" {
		return []string{x.token.Text}
	}
	var l []string
	for _, kid := range x.kids {
		l = append(l, kid.texts()...)
	}
	return l
}

// words are the texts of those that are words, but for those of redirs.
func (x *derived) words() []string {
	if x.left == "" && x.token.Kind == api.TokWord {
		return []string{x.token.Text}
	}
	var l []string
	for _, kid := range x.kids {
		if kid.left != "redir" {
			l = append(l, kid.words()...)
		}
	}
	return l
}

// list is the tree of a list.
func (x *derived) list() *tree {
	var items []*tree
	for _, part := range x.parts("sep", "item0", "item1") {
		if part.left != "sep" {
			items = append(items, part.item())
		} else if part.texts()[0] == "&" {
			items[len(items)-1] = back(items[len(items)-1])
		}
	}
	if len(items) == 1 && items[0].Kind != api.NBack {
		return items[0]
	}
	return seq(items...)
}

func (x *derived) item() *tree {
	last := x.kids[len(x.kids)-1].pipe()
	if len(x.kids) == 1 {
		return last
	}
	left := x.kids[0].kids[0].item()
	if x.kids[1].texts()[0] == "&&" {
		return and(left, last)
	}
	return or(left, last)
}

func (x *derived) pipe() *tree {
	var l []*tree
	for _, part := range x.parts("cmd0", "cmd1") {
		l = append(l, part.command())
	}
	whole := l[0]
	if len(l) > 1 {
		whole = pipe(l...)
	}
	if len(x.kids) > 1 {
		return not(whole)
	}
	return whole
}

func (x *derived) command() *tree {
	switch x.kids[0].left {
	case "body":
		return x.kids[0].body()
	case "function":
		return fun(x.kids[0].texts()[0], x.kids[0].kids[4].body())
	}
	made := cmd()
	made.add(x.parts("redir"))
	for _, part := range x.kids {
		if part.left == "ahead" {
			made.Sets = append(made.Sets, part.words()...)
		} else {
			made.Words = append(made.Words, part.words()...)
		}
	}
	return made
}

// add adds redirs.
func (x *tree) add(redirs []*derived) {
	for _, redir := range redirs {
		l := redir.texts()
		fd := -1
		if len(l) == 3 {
			fd, l = strings.Index("0123456789", l[0]), l[1:]
		}
		x.to(fd, l[0], l[1])
	}
}

// body is the tree of a compound with its redirs.
func (x *derived) body() *tree {
	var made *tree
	var redirs []*derived
	for _, part := range x.parts("compound", "redir") {
		if part.left == "compound" {
			made = part.compound()
		} else {
			redirs = append(redirs, part)
		}
	}
	made.add(redirs)
	return made
}

func (x *derived) compound() *tree {
	var kids []*tree
	for _, part := range x.parts("list0", "list1", "else") {
		if part.left != "else" {
			kids = append(kids, part.list())
		}
	}
	switch x.texts()[0] {
	case "{":
		return group(kids[0])
	case "(":
		return sub(kids[0])
	case "while":
		return while(kids[0], kids[1])
	case "until":
		return until(kids[0], kids[1])
	case "if":
		return choice(append(kids, x.kids[4].otherwise()...)...)
	case "for":
		made := each(x.texts()[1], kids[0])
		for _, kid := range x.kids {
			if kid.left == "words" {
				made.In, made.Words = true, kid.words()
			}
		}
		return made
	}
	made := match(x.texts()[1])
	for _, part := range x.parts("pats", "seq0", "seq1") {
		if part.left == "pats" {
			made.item(nil, part.words()...)
		} else {
			made.kids[len(made.kids)-1] = part.list()
		}
	}
	return made
}

// otherwise is the third kid of an `if`, if there is one.
func (x *derived) otherwise() []*tree {
	var kids []*tree
	for _, part := range x.parts("list0", "else") {
		if part.left == "else" {
			return []*tree{choice(append(kids, part.otherwise()...)...)}
		}
		kids = append(kids, part.list())
	}
	return kids
}

// parse is Parse, by the model.
func (c *chart) parse(s string) ([]api.Node, int, api.Errno) {
	tokens, at, err := lex.All(s)
	if err != api.OK {
		return nil, at, err
	}
	if wrong := c.derive(tokens); wrong >= 0 {
		if tokens[wrong].Kind == api.TokEnd {
			return nil, len(s), api.ErrMore
		}
		return nil, tokens[wrong].At, api.ErrForm
	}
	var nodes []api.Node
	for _, list := range c.whole.parts("list0", "list1") {
		nodes = list.list().list(nil)
	}
	if len(nodes) > 300 {
		return nil, 0, api.ErrMany
	}
	return nodes, 0, api.OK
}

// want holds Parse against the model, and returns the error.
func (c *chart) want(s string) api.Errno {
	c.t.Helper()
	l, at, err := parse.Parse(s)
	wl, wat, werr := c.parse(s)
	if !slices.EqualFunc(l, wl, sameNode) || at != wat || err != werr {
		c.t.Errorf("Parse(%q) = %v, %d, %v; want %v, %d, %v", s, l, at, err, wl, wat, werr)
	}
	return err
}

// all are tokens of each kind, apart but for the digit of a redir.
var all = []string{"a", "x=1", ";", "\n", "&", "&&", "||", "|", "(", ")", "{", "}", "!", "if", "then", "elif", "else", "fi", "while", "until", "do", "done", "for", "in", "case", "esac", ";;", ">", "2<", "'b'"}

// starts are beginnings of scripts in which each rule has come to each of its places.
var starts = []string{
	"", "a", "a ;", "a &", "a \n", "\n a", "a \n \n", "a &&", "a || b", "a && \n", "a ; b", "a & b", "a && b || c", "a ; b && c &",
	"!", "! a", "a |", "a | b", "a | b | \n", "! a | b &&", "a ; !", "a && ! b |",
	"a b", "x=1", "x=1 a", "x=1 y=2", "> f", "a > f", "2> f", "x=1 > f", "> f a", "> 2<f", "a 2> f x=1", ">", "a 2>", "in", "x=1 in",
	"{", "{ \n", "{ a", "{ a ;", "{ a \n \n", "{ a &", "{ x=1", "{ > f", "{ a ; }", "{ a ; } > f", "{ a ; } >", "{ { a ; }", "{ ( a )", "{ a ; } |", "{ ! a ; }",
	"(", "( a", "( a ;", "( a &", "( a )", "( a ) 2> f", "( ( a )", "( { a ; }", "( a ) &&", "( a |", "( x=1",
	"if", "if a", "if a ;", "if x=1", "if ( a )", "if a ; then", "if a ; then b", "if a ; then b ;", "if a ; then b &", "if a ; then ( b )", "if a ; then b ; else", "if a ; then b ; else c ;", "if a ; then b ; else > f", "if a ; then b ; elif", "if a ; then b ; elif c ;", "if a ; then b ; elif c ; then",
	"if a ; then b ; elif c ; then d ;", "if a ; then b ; elif c ; then d ; else", "if a ; then b ; elif c ; then d ; else e ;", "if a ; then b ; elif c ; then d ; elif", "if a ; then b ; elif c ; then d ; elif e ; then f ;", "if a ; then b ; fi", "if a ; then b ; fi > f", "if a ; then b ; else c ; fi", "if a ; then b ; elif c ; then d ; fi",
	"while", "while a ;", "while a", "while x=1", "while a ; do", "while a ; do b", "while a ; do b ;", "while a ; do b ; done", "until", "until a ;", "until a ; do b ;", "until a ; do b ; done > f",
	"for", "for x", "for x \n", "for x ;", "for x \n ;", "for x ; \n", "for x in", "for x \n in", "for x in a", "for x in a ;", "for x in a \n", "for x in a ; \n", "for x in ;", "for x do", "for x ; do a ;", "for x in a b ; do c ;", "for x in a ; do b ; done", "for in", "for do", "for for in",
	"case", "case a", "case a \n", "case a in", "case a in \n", "case a in p", "case a in p |", "case a in p | q", "case a in (", "case a in ( p", "case a in ( p | q", "case a in p )", "case a in p ) \n", "case a in p ) b", "case a in p ) b ;", "case a in p ) b &", "case a in p ) ( b )", "case a in p ) x=1", "case a in p ) ;;", "case a in p ) b ;;", "case a in p ) b ;; \n", "case a in p ) b ; ;; q )", "case a in p ) b ;; ( q ) c ;", "case a in esac", "case a in p ) b ; esac", "case a in p ) b ;; esac > f", "case in", "case esac in", "case a in ( esac", "case a in p | esac",
	"f", "f (", "f ( )", "f ( ) \n", "f ( ) {", "f ( ) { a ;", "f ( ) { a ; }", "f ( ) { a ; } > f", "f ( ) ( a )", "f ( ) g", "f ( ) if a ; then b ;", "f ( ) case a in", "f ( ) for x", "a ; f (", "! f (", "a | f ( )", "x=1 f", "{ f ( ) ( a )",
}

// explore holds every script that begins in a way and has up to a number of tokens more against the model. What can't go on is gone on with no further.
func (c *chart) explore(s string, more int) int {
	n := 1
	err := c.want(s)
	if more == 0 || err == api.ErrForm || c.t.Failed() {
		return n
	}
	for _, token := range all {
		n += c.explore(s+" "+token, more-1)
	}
	return n
}

// TestShortScripts holds all short scripts against the model, and all short ends of others.
func TestShortScripts(t *testing.T) {
	c, n := chart{t: t}, 0
	for _, s := range starts {
		n += c.explore(s, 2)
	}
	if n < 70000 {
		t.Errorf("only %d scripts", n)
	}
}
