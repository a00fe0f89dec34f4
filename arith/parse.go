package arith

import (
	"slices"

	"almoner/api"
)

// syntaxError is what the parser panics with where a text is not an expression.
type syntaxError struct{}

// parser reads the tokens of an expression from the left.
type parser struct {
	rest []string
	open int // the assignments, choices and unaries that have begun and not ended
}

// parse returns the node of a whole expression.
func parse(s string) (whole node, err api.Errno) {
	defer func() {
		switch fault := recover().(type) {
		case nil:
		case syntaxError:
			whole, err = nil, api.ErrForm
		default:
			// It is no fault of the text, and must not pass for one.
			panic(fault)
		}
	}()
	if len(s) > api.MaxLine {
		panic(syntaxError{})
	}
	p := parser{rest: tokens(s)}
	if len(p.rest) == 0 {
		return number(0), api.OK
	}
	whole = p.assignment()
	if len(p.rest) > 0 {
		panic(syntaxError{})
	}
	return whole, api.OK
}

// next returns the next token, or nothing at the end.
func (p *parser) next() string {
	if len(p.rest) == 0 {
		return ""
	}
	return p.rest[0]
}

// take returns the next token, and goes on behind it.
func (p *parser) take() string {
	if len(p.rest) == 0 {
		panic(syntaxError{})
	}
	token := p.rest[0]
	p.rest = p.rest[1:]
	return token
}

// expect goes on behind a token that has to come next.
func (p *parser) expect(token string) {
	if p.take() != token {
		panic(syntaxError{})
	}
}

// enter begins an assignment, choice or unary, and leave ends it.
func (p *parser) enter() {
	if p.open > api.MaxDeep {
		panic(syntaxError{})
	}
	p.open++
}

func (p *parser) leave() {
	p.open--
}

func (p *parser) assignment() node {
	p.enter()
	defer p.leave()
	if len(p.rest) < 2 || !isName(p.rest[0]) || !isAssign(p.rest[1]) {
		return p.choice()
	}
	name, sign := p.take(), p.take()
	return assignment{name: name, sign: sign[:len(sign)-1], right: p.assignment()}
}

func (p *parser) choice() node {
	p.enter()
	defer p.leave()
	first := p.either()
	if p.next() != "?" {
		return first
	}
	p.take()
	yes := p.assignment()
	p.expect(":")
	return choice{condition: first, yes: yes, no: p.choice()}
}

// The levels of precedence, from the lowest one.
func (p *parser) either() node   { return p.level(p.both, "||") }
func (p *parser) both() node     { return p.level(p.bitOr, "&&") }
func (p *parser) bitOr() node    { return p.level(p.bitXor, "|") }
func (p *parser) bitXor() node   { return p.level(p.bitAnd, "^") }
func (p *parser) bitAnd() node   { return p.level(p.equality, "&") }
func (p *parser) equality() node { return p.level(p.order, "==", "!=") }
func (p *parser) order() node    { return p.level(p.shift, "<", "<=", ">", ">=") }
func (p *parser) shift() node    { return p.level(p.sum, "<<", ">>") }
func (p *parser) sum() node      { return p.level(p.product, "+", "-") }
func (p *parser) product() node  { return p.level(p.unary, "*", "/", "%") }

// level reads operands, which are those of the next level, with operators of
// this one between them.
func (p *parser) level(operand func() node, signs ...string) node {
	left := operand()
	for slices.Contains(signs, p.next()) {
		sign := p.take()
		left = binary{sign: sign, left: left, right: operand()}
	}
	return left
}

func (p *parser) unary() node {
	p.enter()
	defer p.leave()
	token := p.take()
	switch token {
	case "+", "-", "~", "!":
		return prefix{sign: token, right: p.unary()}
	case "(":
		inner := p.assignment()
		p.expect(")")
		return inner
	}
	switch {
	case isConstant(token):
		value, _ := constant(token)
		return number(value)
	case isName(token):
		return name(token)
	}
	panic(syntaxError{})
}
