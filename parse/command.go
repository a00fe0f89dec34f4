package parse

import "almoner/api"

// usualFd is the Fd of a redir that names none.
const usualFd = -1

func (p *parser) command() int {
	switch {
	case compoundKind(p.next().Text) != 0:
		return p.compound()
	case p.beginsFunction():
		return p.function()
	}
	return p.simple()
}

// beginsFunction reports whether a name comes next, and a parenthesis behind it.
func (p *parser) beginsFunction() bool {
	name := p.next().Text
	return isName(name) && !isReserved(name) && p.tokens[1].Text == "("
}

func (p *parser) function() int {
	p.enter()
	node := api.Node{Kind: api.NFunc, Name: p.name()}
	p.expect("(")
	p.expect(")")
	p.breaks()
	node.Kids = []int{p.compound()}
	p.leave()
	return p.add(node)
}

func (p *parser) simple() int {
	node := api.Node{Kind: api.NCmd}
words:
	for {
		token := p.next()
		switch {
		case beginsRedir(token):
			node.Redirs = append(node.Redirs, p.redir())
		case len(node.Words) == 0 && isSet(token):
			node.Sets = append(node.Sets, p.word())
		case isFirst(token), len(node.Words) > 0 && token.Kind == api.TokWord:
			node.Words = append(node.Words, p.word())
		default:
			break words
		}
	}
	if len(node.Sets)+len(node.Words)+len(node.Redirs) == 0 {
		p.fail()
	}
	return p.add(node)
}

func (p *parser) redirs() []api.Redir {
	var l []api.Redir
	for beginsRedir(p.next()) {
		l = append(l, p.redir())
	}
	return l
}

func (p *parser) redir() api.Redir {
	redir := api.Redir{Fd: usualFd}
	if p.next().Kind == api.TokIO {
		redir.Fd = int(p.read().Text[0] - '0')
	}
	redir.Op = p.read().Text
	if p.next().Kind == api.TokIO {
		// It belongs to the redirection that comes first.
		redir.Word = p.read().Text
	} else {
		redir.Word = p.word()
	}
	return redir
}
