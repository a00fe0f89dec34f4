package print

import (
	"strconv"
	"strings"

	"almoner/api"
)

// printer writes the text of nodes that are in order. Nodes that Parse does not
// return may have any text, since it is not returned.
type printer struct {
	nodes []api.Node
	text  strings.Builder
}

// put writes behind the text. What has become too long is not continued: lists of
// long words could make a text for which there is no room.
func (p *printer) put(l ...string) {
	for _, s := range l {
		if p.text.Len() <= api.MaxData {
			p.text.WriteString(s)
		}
	}
}

// kid returns a kid of a node, or a node without text if it does not have it.
func (p *printer) kid(node api.Node, n int) api.Node {
	if n < 0 || n >= len(node.Kids) || node.Kids[n] == none {
		return api.Node{}
	}
	return p.nodes[node.Kids[n]]
}

func (p *printer) node(node api.Node) {
	switch node.Kind {
	case api.NCmd:
		p.command(node)
	case api.NNot:
		p.put("! ")
		p.node(p.kid(node, 0))
	case api.NBack:
		p.node(p.kid(node, 0))
		p.put(" &")
	case api.NPipe:
		p.kids(node, " | ")
	case api.NAnd:
		p.kids(node, " && ")
	case api.NOr:
		p.kids(node, " || ")
	case api.NSeq:
		p.sequence(node)
	case api.NFunc:
		p.put(node.Name, "() ")
		p.node(p.kid(node, 0))
	default:
		p.compound(node)
		p.redirs(" ", node.Redirs)
	}
}

func (p *printer) command(node api.Node) {
	gap := ""
	for _, words := range [][]string{node.Sets, node.Words} {
		for _, word := range words {
			p.put(gap, word)
			gap = " "
		}
	}
	p.redirs(gap, node.Redirs)
}

// redirs writes redirections, with a gap ahead of the first one.
func (p *printer) redirs(gap string, l []api.Redir) {
	for _, redir := range l {
		p.put(gap)
		if 0 <= redir.Fd && redir.Fd <= 9 {
			p.put(strconv.Itoa(redir.Fd))
		}
		p.put(redir.Op, redir.Word)
		gap = " "
	}
}

// kids writes all kids of a node, with a sign between each two.
func (p *printer) kids(node api.Node, sign string) {
	for n := range node.Kids {
		if n > 0 {
			p.put(sign)
		}
		p.node(p.kid(node, n))
	}
}

func (p *printer) sequence(node api.Node) {
	for n := range node.Kids {
		if n > 0 {
			p.separate(p.kid(node, n-1))
		}
		p.node(p.kid(node, n))
	}
}

// list writes what something else follows.
func (p *printer) list(node api.Node) {
	p.node(node)
	if node.Kind == api.NSeq {
		node = p.kid(node, len(node.Kids)-1)
	}
	p.separate(node)
}

// separate ends an item. The sign of one that is not waited for ends it already.
func (p *printer) separate(item api.Node) {
	if item.Kind != api.NBack {
		p.put(";")
	}
	p.put(" ")
}
