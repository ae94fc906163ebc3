package parse

import "selkie/api"

// binary is the operator that a word or a sign is between two expressions; 0: none.
func binary(word string) int {
	switch word {
	case "+":
		return api.Add
	case "-":
		return api.Sub
	case "*":
		return api.Mul
	case "//":
		return api.Idiv
	case "%":
		return api.Mod
	case "&":
		return api.Band
	case "|":
		return api.Bor
	case "~":
		return api.Bxor
	case "<<":
		return api.Shl
	case ">>":
		return api.Shr
	case "..":
		return api.Concat
	case "==":
		return api.Eq
	case "~=":
		return api.Ne
	case "<":
		return api.Lt
	case "<=":
		return api.Le
	case ">":
		return api.Gt
	case ">=":
		return api.Ge
	case "and":
		return api.And
	case "or":
		return api.Or
	}
	return 0
}

// unary is the operator that a word or a sign is ahead of an expression; 0: none.
func unary(word string) int {
	switch word {
	case "-":
		return api.Neg
	case "~":
		return api.Bnot
	case "not":
		return api.Not
	case "#":
		return api.Len
	}
	return 0
}

// strength is how much an operator binds; 0: it is none.
func strength(op int) int {
	much := 0
	// Each row binds one more than the row behind it, so that the order alone says how much.
	switch op {
	case api.Neg, api.Bnot, api.Not, api.Len:
		much++
		fallthrough
	case api.Mul, api.Idiv, api.Mod:
		much++
		fallthrough
	case api.Add, api.Sub:
		much++
		fallthrough
	case api.Concat:
		much++
		fallthrough
	case api.Shl, api.Shr:
		much++
		fallthrough
	case api.Band:
		much++
		fallthrough
	case api.Bxor:
		much++
		fallthrough
	case api.Bor:
		much++
		fallthrough
	case api.Eq, api.Ne, api.Lt, api.Le, api.Gt, api.Ge:
		much++
		fallthrough
	case api.And:
		much++
		fallthrough
	case api.Or:
		much++
	}
	return much
}

// behind is how much operators must bind more than, to be part of what stands right of op.
func behind(op int) int {
	if op == api.Concat {
		return strength(op) - 1
	}
	return strength(op)
}
