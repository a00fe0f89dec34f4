package parse

import "almoner/api"

// compoundKind returns the kind of the compound that a token begins, or 0 if it
// begins none.
func compoundKind(token string) int {
	switch token {
	case "{":
		return api.NGroup
	case "(":
		return api.NSub
	case "if":
		return api.NIf
	case "while":
		return api.NWhile
	case "until":
		return api.NUntil
	case "for":
		return api.NFor
	case "case":
		return api.NCase
	}
	return 0
}

// compound reads a compound and its redirs.
func (p *parser) compound() int {
	p.enter()
	node := api.Node{Kind: compoundKind(p.next().Text)}
	switch node.Kind {
	case api.NGroup:
		node.Kids = p.lists("{", "}")
	case api.NSub:
		node.Kids = p.lists("(", ")")
	case api.NIf:
		node.Kids = p.branches("if")
		p.expect("fi")
	case api.NWhile:
		node.Kids = p.lists("while", "do", "done")
	case api.NUntil:
		node.Kids = p.lists("until", "do", "done")
	case api.NFor:
		node.Name, node.In, node.Words = p.forHead()
		node.Kids = p.lists("do", "done")
	case api.NCase:
		node.Words = p.caseHead()
		node.Pats, node.Kids = p.caseItems()
	default:
		p.fail()
	}
	p.leave()
	node.Redirs = p.redirs()
	return p.add(node)
}

// lists reads lists, each of them between two of the words.
func (p *parser) lists(words ...string) []int {
	var kids []int
	p.expect(words[0])
	for _, word := range words[1:] {
		kids = append(kids, p.list())
		p.expect(word)
	}
	return kids
}

// branches reads the condition and the lists of an `if` or `elif`, up to the `fi`
// that ends all of them.
func (p *parser) branches(first string) []int {
	p.expect(first)
	kids := []int{p.list()}
	p.expect("then")
	kids = append(kids, p.list())
	switch {
	case p.next().Text == "elif":
		kids = append(kids, p.add(api.Node{Kind: api.NIf, Kids: p.branches("elif")}))
	case p.takes("else"):
		kids = append(kids, p.list())
	}
	return kids
}

// forHead returns the name of a `for`, whether there is an `in`, and its words.
func (p *parser) forHead() (string, bool, []string) {
	p.expect("for")
	name := p.name()
	p.breaks()
	in := p.takes("in")
	var words []string
	for in && p.next().Kind == api.TokWord {
		words = append(words, p.word())
	}
	// Behind words one of these has to come: a `do` right behind would be a word, too.
	p.takes(";")
	p.breaks()
	return name, in, words
}

// caseHead returns the word of a `case`.
func (p *parser) caseHead() []string {
	p.expect("case")
	words := []string{p.word()}
	p.breaks()
	p.expect("in")
	p.breaks()
	return words
}

// caseItems returns the patterns and the kid of each item of a `case`.
func (p *parser) caseItems() ([][]string, []int) {
	var pats [][]string
	var kids []int
	for !p.takes("esac") {
		pats = append(pats, p.patterns())
		kids = append(kids, p.caseList())
		if !p.takes(";;") {
			p.expect("esac")
			break
		}
		p.breaks()
	}
	return pats, kids
}

// patterns reads the patterns of an item, with the parentheses around them.
func (p *parser) patterns() []string {
	p.takes("(")
	l := []string{p.word()}
	for p.takes("|") {
		l = append(l, p.word())
	}
	p.expect(")")
	return l
}

// caseList returns the kid of an item, or -1 if it has none.
func (p *parser) caseList() int {
	p.breaks()
	if p.beginsItem() {
		return p.list()
	}
	return -1
}
