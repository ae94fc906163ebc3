package parse

import "selkie/api"

// block reads a block that is a Kid.
func (p *parser) block(n *api.Node) error {
	return p.hang(api.Node{Kind: api.SBlock}, p.statements)(n)
}

// statements reads a block's statements; that the right word stands behind them, its caller asks.
func (p *parser) statements(n *api.Node) error {
	for !p.isOver() {
		if p.take(";") {
			continue
		}
		if p.word() == "return" {
			return p.hang(api.Node{Kind: api.SReturn}, p.skip, p.returned, p.perhaps(";"))(n)
		}
		if err := kid(p.statement)(n); err != nil {
			return err
		}
	}
	return nil
}

// isOver says whether a block is over: what stands ahead is the Eof, or a word that may stand behind a block.
func (p *parser) isOver() bool {
	switch p.word() {
	case "end", "else", "elseif", "until":
		return true
	}
	return p.ahead().Kind == api.Eof
}

// returned reads the values behind a return, if there are any.
func (p *parser) returned(n *api.Node) error {
	if p.isOver() || p.word() == ";" {
		return nil
	}
	return p.list(n)
}

// statement reads a statement that isn't a return.
func (p *parser) statement() (int, error) {
	switch p.word() {
	case "break":
		return p.node(api.Node{Kind: api.SBreak}, p.skip)
	case "goto":
		return p.node(api.Node{Kind: api.SGoto}, p.skip, p.label)
	case "::":
		return p.node(api.Node{Kind: api.SLabel}, p.skip, p.label, p.words("::"))
	case "do":
		return p.node(api.Node{Kind: api.SDo}, p.skip, p.block, p.words("end"))
	case "while":
		return p.node(api.Node{Kind: api.SWhile}, p.skip, p.exp, p.words("do"), p.block, p.words("end"))
	case "repeat":
		return p.node(api.Node{Kind: api.SRepeat}, p.skip, p.block, p.words("until"), p.exp)
	case "if":
		return p.node(api.Node{Kind: api.SIf}, p.skip, p.exp, p.words("then"), p.block,
			p.whenever("elseif", p.exp, p.words("then"), p.block), p.perhaps("else", p.block), p.words("end"))
	case "for":
		return p.node(api.Node{}, p.skip, p.names, p.rounds, p.words("do"), p.block, p.words("end"))
	case "function":
		return p.node(api.Node{Kind: api.SAssign}, p.assigned)
	case "local":
		return p.node(api.Node{}, p.skip, p.declared)
	}
	return p.node(api.Node{}, p.begun)
}

// rounds reads what stands between a for's Names and its do.
func (p *parser) rounds(n *api.Node) error {
	if len(n.Names) == 1 && p.take("=") {
		n.Kind = api.SFor
		return fill(n, p.exp, p.words(","), p.exp, p.perhaps(",", p.exp))
	}
	n.Kind = api.SEach
	return fill(n, p.words("in"), p.list, count)
}

// assigned reads a function that is assigned to what its names say.
func (p *parser) assigned(n *api.Node) error {
	function := api.Node{Kind: api.EFunc, Line: p.ahead().Line}
	p.at++
	place, err := p.node(api.Node{Kind: api.EName}, p.label)
	for err == nil && p.word() == "." {
		place, err = p.within(place)
	}
	if err == nil && p.word() == ":" {
		function.Names = []string{"self"}
		place, err = p.within(place)
	}
	if err != nil {
		return err
	}
	n.Kids = []int{place}
	return fill(n, count, p.hang(function, p.body))
}

// within reads a sign and the Name of what lies within what was read.
func (p *parser) within(place int) (int, error) {
	return p.node(api.Node{Kind: api.EIndex, Kids: []int{place}}, p.skip, p.key)
}

// declared reads what stands behind local.
func (p *parser) declared(n *api.Node) error {
	line := p.ahead().Line
	if !p.take("function") {
		n.Kind = api.SLocal
		return fill(n, p.names, p.perhaps("=", p.list))
	}
	n.Kind = api.SFunc
	name, err := p.name()
	if err != nil {
		return err
	}
	n.Names = []string{name}
	return p.hang(api.Node{Kind: api.EFunc, Line: line}, p.body)(n)
}

// begun reads a statement that begins with an expression: a call or an assignment, as what was read tells.
func (p *parser) begun(n *api.Node) error {
	first, err := p.suffixed()
	if err != nil {
		return err
	}
	n.Kids = []int{first}
	switch p.nodes[first].Kind {
	case api.ECall, api.EMethod:
		n.Kind = api.SCall
		return nil
	case api.EName, api.EIndex:
		n.Kind = api.SAssign
		return fill(n, p.perhaps(",", p.targets), count, p.words("="), p.list)
	}
	return p.wrong()
}

// targets reads an assignment's targets but the first.
func (p *parser) targets(n *api.Node) error { return kids(p.target, p.comma)(n) }

// target reads what may be assigned to. What it is shows ahead of the first token that may not follow it.
func (p *parser) target() (int, error) {
	place, err := p.suffixed()
	if err != nil {
		return 0, err
	}
	if kind := p.nodes[place].Kind; kind != api.EName && kind != api.EIndex {
		return 0, p.wrong()
	}
	return place, nil
}
