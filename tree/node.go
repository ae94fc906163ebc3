package tree

import (
	"selkie/api"
	"selkie/lex"
)

// fields are those that a node has beside its Kind, its Line and its Kids.
type fields int

const (
	fieldOp fields = 1 << iota
	fieldN
	fieldS
	fieldNames
	nameInS // S is a name
)

// fieldsOf is what a Kind may have.
func fieldsOf(kind int) fields {
	var has fields
	switch kind {
	case api.EBinary, api.EUnary:
		has = fieldOp
	case api.EInt, api.SAssign:
		has = fieldN
	case api.EFunc, api.SEach:
		has = fieldN
		fallthrough // these two count something and declare names, the others declare them alone
	case api.SLocal, api.SFor, api.SFunc:
		has |= fieldNames
	case api.EName, api.EMethod, api.SGoto, api.SLabel:
		has = nameInS
		fallthrough // what is told by a name is told by a string
	case api.EStr:
		has |= fieldS
	}
	return has
}

// given is which fields of a node aren't zero.
func given(n api.Node) fields {
	var has fields
	if n.Op != 0 {
		has |= fieldOp
	}
	if n.N != 0 {
		has |= fieldN
	}
	if n.S != "" {
		has |= fieldS
	}
	if len(n.Names) > 0 {
		has |= fieldNames
	}
	return has
}

// fieldsRight says whether a node's fields are such as its Kind may have.
func fieldsRight(n api.Node) bool {
	has := fieldsOf(n.Kind)
	if given(n)&^has != 0 || has&nameInS != 0 && !isName(n.S) {
		return false
	}
	for _, name := range n.Names {
		if !isName(name) {
			return false
		}
	}
	return opRight(n) && countRight(n) && namesRight(n)
}

// opRight says whether Op is an operator of the Kind's; of other Kinds nothing is asked.
func opRight(n api.Node) bool {
	switch n.Kind {
	case api.EBinary:
		return api.Add <= n.Op && n.Op <= api.Or
	case api.EUnary:
		return api.Neg <= n.Op && n.Op <= api.Len
	}
	return true
}

// countRight says whether N is within its bounds; that it isn't more than there are Kids, what the Kids must be tells.
func countRight(n api.Node) bool {
	switch n.Kind {
	case api.EFunc:
		return n.N == 0 || n.N == 1
	case api.SAssign, api.SEach:
		return n.N >= 1
	}
	return true
}

// namesRight says whether there are as many Names as the Kind asks for.
func namesRight(n api.Node) bool {
	switch n.Kind {
	case api.SLocal, api.SEach:
		return len(n.Names) >= 1
	case api.SFor, api.SFunc:
		return len(n.Names) == 1
	}
	return true
}

func isName(s string) bool {
	if s == "" || len(s) > api.MaxStr || isDigit(s[0]) || lex.Word(s) {
		return false
	}
	for at := range len(s) {
		if !isLetter(s[at]) && !isDigit(s[at]) {
			return false
		}
	}
	return true
}

func isDigit(c byte) bool { return '0' <= c && c <= '9' }

// isLetter takes _ for a letter: it may stand wherever one may.
func isLetter(c byte) bool { return 'a' <= c && c <= 'z' || 'A' <= c && c <= 'Z' || c == '_' }

// word is the word that stands for a Kind.
func word(kind int) string {
	words := [...]string{
		api.ENil: "nil", api.ETrue: "true", api.EFalse: "false", api.EInt: "int", api.EStr: "str", api.EMany: "many",
		api.EName: "name", api.EIndex: "index", api.ECall: "call", api.EMethod: "method", api.EFunc: "func",
		api.EBinary: "binary", api.EUnary: "unary", api.EParen: "paren", api.ETable: "table",
		api.IPos: "pos", api.IKey: "key",
		api.SBlock: "block", api.SLocal: "local", api.SAssign: "assign", api.SCall: "do-call", api.SDo: "do",
		api.SWhile: "while", api.SRepeat: "repeat", api.SIf: "if", api.SFor: "for", api.SEach: "each",
		api.SFunc: "local-func", api.SReturn: "return", api.SBreak: "break", api.SGoto: "goto", api.SLabel: "label",
	}
	return words[kind]
}
