// Package value is layer 1: see shared/doc/01-value.md.
package value

import (
	"strconv"

	"selkie/api"
)

// Raw says whether two values are one.
func Raw(a, b api.Value) bool {
	if a.Kind != b.Kind || strange(a) {
		return false
	}
	// Own has made one of all that a Kind lets differ, so the fields tell.
	return Own(a) == Own(b)
}

// Truth says whether a value counts as true.
func Truth(v api.Value) bool {
	switch v.Kind {
	case api.Nil:
		return false
	case api.Bool:
		return v.N != 0
	}
	return !strange(v)
}

// Type is what a value is, in a word.
func Type(v api.Value) string {
	switch v.Kind {
	case api.Nil:
		return "nil"
	case api.Bool:
		return "boolean"
	case api.Int:
		return "number"
	case api.Str:
		return "string"
	case api.Table:
		return "table"
	case api.Func:
		fallthrough // a program can't tell by the word who made a function
	case api.Builtin:
		return "function"
	case api.Thread:
		return "thread"
	}
	return ""
}

// Print is how a value is shown.
func Print(v api.Value) string {
	switch v.Kind {
	case api.Bool:
		return strconv.FormatBool(v.N != 0)
	case api.Int:
		return strconv.FormatInt(v.N, 10)
	case api.Str:
		return v.S
	}
	return Type(v)
}

// Less says whether a value is less than another one; false: they can't be asked.
func Less(a, b api.Value) (less, ok bool) {
	if a.Kind != b.Kind {
		return false, false
	}
	switch a.Kind {
	case api.Int:
		return a.N < b.N, true
	case api.Str:
		return a.S < b.S, true
	}
	return false, false
}

// Own is a value with the fields of its kind alone.
func Own(v api.Value) api.Value {
	switch v.Kind {
	case api.Bool:
		return OfBool(v.N != 0)
	case api.Str:
		return OfStr(v.S)
	case api.Int, api.Table, api.Func, api.Builtin, api.Thread:
		return api.Value{Kind: v.Kind, N: v.N}
	}
	// Nil names no field, and a strange Kind isn't kept: both are zero.
	return api.Value{}
}

// Key is a value as a key.
func Key(v api.Value) (api.Value, api.Errno) {
	if v.Kind == api.Nil || strange(v) {
		return api.Value{}, api.ErrKey
	}
	return Own(v), api.OK
}

// OfInt is a number as a value.
func OfInt(n int64) api.Value { return api.Value{Kind: api.Int, N: n} }

// OfStr is a string as a value.
func OfStr(s string) api.Value { return api.Value{Kind: api.Str, S: s} }

// OfBool is a bool as a value; true has one N alone, so that trues are the same as keys.
func OfBool(b bool) api.Value {
	if b {
		return api.Value{Kind: api.Bool, N: 1}
	}
	return api.Value{Kind: api.Bool}
}

func strange(v api.Value) bool { return v.Kind < api.Nil || v.Kind > api.Thread }
