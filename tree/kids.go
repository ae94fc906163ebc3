package tree

import (
	"math"

	"selkie/api"
)

// sorts are the sorts that a node is of: it may be of several.
type sorts int

const (
	expression sorts = 1 << iota
	target           // what may be assigned to
	call
	function
	item // of a table
	block
	statement // any but an SReturn
	ending    // an SReturn
)

// noBound is more than any node has Kids.
const noBound = math.MaxInt64

// sortsOf is of which sorts a Kind is: of none, if there is no such Kind, so that no Kid may be of it.
func sortsOf(kind int) sorts {
	switch {
	case kind == api.EName, kind == api.EIndex:
		return expression | target
	case kind == api.ECall, kind == api.EMethod:
		return expression | call
	case kind == api.EFunc:
		return expression | function
	case api.ENil <= kind && kind <= api.ETable:
		return expression
	case kind == api.IPos, kind == api.IKey:
		return item
	case kind == api.SBlock:
		return block
	case kind == api.SReturn:
		return ending
	case api.SLocal <= kind && kind <= api.SLabel:
		return statement
	}
	return 0
}

// part takes from the front of a row of Kids those that it asks for; false: they don't stand there.
type part func(kids []sorts) (rest []sorts, ok bool)

// some asks for Kids of these sorts, in this order, least to most times; it takes as many as there are.
func some(least, most int64, row ...sorts) part {
	return func(kids []sorts) ([]sorts, bool) {
		times := int64(0)
		for times < most && begins(kids, row) {
			kids = kids[len(row):]
			times++
		}
		return kids, times >= least
	}
}

// begins says whether Kids begin with these sorts, in this order.
func begins(kids, row []sorts) bool {
	if len(kids) < len(row) {
		return false
	}
	for i, wanted := range row {
		if kids[i]&wanted == 0 {
			return false
		}
	}
	return true
}

// rule says whether Kids, all of them, are as they must be.
type rule func(kids []sorts) bool

// all is the rule that asks for these parts, one behind the other.
func all(parts ...part) rule {
	return func(kids []sorts) bool {
		for _, take := range parts {
			rest, ok := take(kids)
			if !ok {
				return false
			}
			kids = rest
		}
		return len(kids) == 0
	}
}

// just is the rule that asks for Kids of these sorts, once.
func just(row ...sorts) rule { return all(some(1, 1, row...)) }

// kidsOf is what a node's Kids must be.
func kidsOf(n api.Node) rule {
	switch n.Kind {
	case api.EUnary, api.EParen, api.IPos:
		return just(expression)
	case api.EIndex, api.EBinary, api.IKey:
		return just(expression, expression)
	case api.ECall, api.EMethod:
		return all(some(1, noBound, expression))
	case api.SLocal, api.SReturn:
		return all(some(0, noBound, expression))
	case api.EFunc, api.SDo:
		return just(block)
	case api.SCall:
		return just(call)
	case api.SFunc:
		return just(function)
	case api.SWhile:
		return just(expression, block)
	case api.SRepeat:
		return just(block, expression)
	case api.ETable:
		return all(some(0, noBound, item))
	case api.SBlock:
		return all(some(0, noBound, statement), some(0, 1, ending))
	case api.SIf:
		return all(some(1, noBound, expression, block), some(0, 1, block))
	case api.SFor:
		return all(some(2, 3, expression), some(1, 1, block))
	case api.SEach:
		return all(some(n.N, n.N, expression), some(1, 1, block))
	case api.SAssign:
		return all(some(n.N, n.N, target), some(1, noBound, expression))
	}
	return all()
}

// kidsRight says whether a node's Kids are such as its Kind must have; they are places of nodes.
func kidsRight(n api.Node, nodes []api.Node) bool {
	kids := make([]sorts, len(n.Kids))
	for i, kid := range n.Kids {
		kids[i] = sortsOf(nodes[kid].Kind)
	}
	return kidsOf(n)(kids)
}
