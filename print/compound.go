package print

import "almoner/api"

func (p *printer) compound(node api.Node) {
	switch node.Kind {
	case api.NGroup:
		p.put("{ ")
		p.list(p.kid(node, 0))
		p.put("}")
	case api.NSub:
		p.put("( ")
		p.node(p.kid(node, 0))
		p.put(" )")
	case api.NIf:
		p.branches(node)
		p.put("fi")
	case api.NWhile:
		p.put("while ")
		p.list(p.kid(node, 0))
		p.loop(p.kid(node, 1))
	case api.NUntil:
		p.put("until ")
		p.list(p.kid(node, 0))
		p.loop(p.kid(node, 1))
	case api.NFor:
		p.forHead(node)
		p.loop(p.kid(node, 0))
	case api.NCase:
		p.cases(node)
	}
}

func (p *printer) loop(body api.Node) {
	p.put("do ")
	p.list(body)
	p.put("done")
}

// branches writes an NIf up to its `fi`, which ends all that follow by `elif`, too.
func (p *printer) branches(node api.Node) {
	p.put("if ")
	p.list(p.kid(node, 0))
	p.put("then ")
	p.list(p.kid(node, 1))
	if len(node.Kids) <= 2 {
		return
	}
	third := p.kid(node, 2)
	if third.Kind == api.NIf && len(third.Redirs) == 0 {
		p.put("el")
		p.branches(third)
		return
	}
	p.put("else ")
	p.list(third)
}

func (p *printer) forHead(node api.Node) {
	p.put("for ", node.Name)
	if node.In {
		p.put(" in")
		for _, word := range node.Words {
			p.put(" ", word)
		}
	}
	p.put("; ")
}

func (p *printer) cases(node api.Node) {
	p.put("case ")
	if len(node.Words) > 0 {
		p.put(node.Words[0])
	}
	p.put(" in")
	for n, pats := range node.Pats {
		p.put(" ")
		p.patterns(pats)
		if body := p.kid(node, n); body.Kind != 0 {
			p.put(" ")
			p.node(body)
		}
		p.put(";;")
	}
	p.put(" esac")
}

func (p *printer) patterns(l []string) {
	p.put("(")
	for i, pat := range l {
		if i > 0 {
			p.put(" | ")
		}
		p.put(pat)
	}
	p.put(")")
}
