package parse

import "almoner/api"

func (p *parser) script() {
	p.breaks()
	if p.beginsItem() {
		p.list()
	}
	if p.next().Kind != api.TokEnd {
		p.fail()
	}
}

// list reads one or more items, and returns the index of their node.
func (p *parser) list() int {
	var items []int
	back := false
	p.breaks()
	for more := true; more; {
		item := p.item()
		back = p.takes("&")
		if back {
			item = p.add(api.Node{Kind: api.NBack, Kids: []int{item}})
		}
		items = append(items, item)
		separated := back || p.takes(";") || p.takes("\n")
		p.breaks()
		more = separated && p.beginsItem()
	}
	if len(items) == 1 && !back {
		return items[0]
	}
	return p.add(api.Node{Kind: api.NSeq, Kids: items})
}

// beginsItem reports whether the next token can begin an item.
func (p *parser) beginsItem() bool {
	token := p.next()
	return token.Text == "!" || compoundKind(token.Text) != 0 || beginsRedir(token) || isFirst(token)
}

func (p *parser) item() int {
	left := p.pipe()
	for {
		kind := api.NAnd
		if p.takes("||") {
			kind = api.NOr
		} else if !p.takes("&&") {
			return left
		}
		p.breaks()
		left = p.add(api.Node{Kind: kind, Kids: []int{left, p.pipe()}})
	}
}

func (p *parser) pipe() int {
	not := p.takes("!")
	commands := []int{p.command()}
	for p.takes("|") {
		p.breaks()
		commands = append(commands, p.command())
	}
	whole := commands[0]
	if len(commands) > 1 {
		whole = p.add(api.Node{Kind: api.NPipe, Kids: commands})
	}
	if not {
		whole = p.add(api.Node{Kind: api.NNot, Kids: []int{whole}})
	}
	return whole
}
