package parse

import "selkie/api"

// exp reads an expression that is a Kid.
func (p *parser) exp(n *api.Node) error { return kid(p.expression)(n) }

// list reads expressions that are Kids.
func (p *parser) list(n *api.Node) error { return kids(p.expression, p.comma)(n) }

// expression reads an expression, whatever its operators.
func (p *parser) expression() (int, error) { return p.bound(0) }

// bound reads an expression as far as its binary operators bind more than least.
func (p *parser) bound(least int) (int, error) {
	left, err := p.operand()
	for err == nil {
		op := binary(p.word())
		if strength(op) <= least {
			break
		}
		left, err = p.node(api.Node{Kind: api.EBinary, Op: op, Kids: []int{left}}, p.skip, p.right(op))
	}
	return left, err
}

// right reads what stands right of an operator.
func (p *parser) right(op int) part {
	return kid(func() (int, error) { return p.bound(behind(op)) })
}

// operand reads an expression that isn't an operator between two others.
func (p *parser) operand() (int, error) {
	token := p.ahead()
	switch token.Kind {
	case api.Number:
		return p.node(api.Node{Kind: api.EInt, N: token.N}, p.skip)
	case api.Text:
		return p.node(api.Node{Kind: api.EStr, S: token.S}, p.skip)
	}
	if op := unary(p.word()); op != 0 {
		return p.node(api.Node{Kind: api.EUnary, Op: op}, p.skip, p.right(op))
	}
	switch p.word() {
	case "nil":
		return p.node(api.Node{Kind: api.ENil}, p.skip)
	case "true":
		return p.node(api.Node{Kind: api.ETrue}, p.skip)
	case "false":
		return p.node(api.Node{Kind: api.EFalse}, p.skip)
	case "...":
		return p.node(api.Node{Kind: api.EMany}, p.skip)
	case "function":
		return p.node(api.Node{Kind: api.EFunc}, p.skip, p.body)
	case "{":
		return p.table()
	}
	return p.suffixed()
}

// suffixed reads a Name or an expression in brackets, and all that hangs on it.
func (p *parser) suffixed() (int, error) {
	place, err := p.plain()
	for err == nil {
		kind, parts := p.suffix()
		if kind == 0 {
			break
		}
		place, err = p.node(api.Node{Kind: kind, Kids: []int{place}}, parts...)
	}
	return place, err
}

// plain reads a Name or an expression in brackets.
func (p *parser) plain() (int, error) {
	if p.word() == "(" {
		return p.node(api.Node{Kind: api.EParen}, p.skip, p.exp, p.words(")"))
	}
	return p.node(api.Node{Kind: api.EName}, p.label)
}

// suffix is of which Kind a node is that begins with what was read and goes on with the token ahead, and how it does;
// 0: there is no such node.
func (p *parser) suffix() (int, []part) {
	switch p.word() {
	case ".":
		return api.EIndex, []part{p.skip, p.key}
	case "[":
		return api.EIndex, []part{p.skip, p.exp, p.words("]")}
	case ":":
		return api.EMethod, []part{p.skip, p.label, p.arguments}
	case "(", "{":
		return api.ECall, []part{p.arguments}
	}
	if p.ahead().Kind == api.Text {
		return api.ECall, []part{p.arguments}
	}
	return 0, nil
}

// key reads a Name that stands for the string of its bytes.
func (p *parser) key(n *api.Node) error { return p.hang(api.Node{Kind: api.EStr}, p.label)(n) }

// arguments reads what a call hands on.
func (p *parser) arguments(n *api.Node) error {
	if p.ahead().Kind == api.Text || p.word() == "{" {
		return kid(p.operand)(n)
	}
	return fill(n, p.words("("), p.unless(")", p.list), p.words(")"))
}

// body reads a function from its parameters to its end.
func (p *parser) body(n *api.Node) error {
	return fill(n, p.words("("), p.unless(")", p.parameters), p.words(")"), p.block, p.words("end"))
}

// parameters reads a function's Names, and the ... that may stand behind them or alone.
func (p *parser) parameters(n *api.Node) error {
	many := func() bool {
		if p.take("...") {
			n.N = 1
		}
		return n.N == 1
	}
	if many() {
		return nil
	}
	names, err := row(p.name, func() bool { return p.comma() && !many() })
	n.Names = append(n.Names, names...)
	return err
}

// table reads a table.
func (p *parser) table() (int, error) {
	return p.node(api.Node{Kind: api.ETable}, p.skip, p.unless("}", p.items), p.words("}"))
}

// items reads a table's items, and the sign that may stand behind the last one.
func (p *parser) items(n *api.Node) error {
	return kids(p.item, func() bool { return (p.comma() || p.take(";")) && p.word() != "}" })(n)
}

// item reads an item of a table.
func (p *parser) item() (int, error) {
	if p.word() == "[" {
		return p.node(api.Node{Kind: api.IKey}, p.skip, p.exp, p.words("]", "="), p.exp)
	}
	if p.isField() {
		return p.node(api.Node{Kind: api.IKey}, p.key, p.skip, p.exp)
	}
	return p.node(api.Node{Kind: api.IPos}, p.exp)
}

// isField says whether a Name and = stand ahead.
func (p *parser) isField() bool {
	if p.ahead().Kind != api.Name {
		return false
	}
	// Behind a Name there is a token, if only the Eof.
	next := p.tokens[p.at+1]
	return next.Kind == api.Sign && next.S == "="
}
