package lex

import (
	"math"
	"strings"

	"selkie/conv"
)

const (
	// letters stand behind a backslash for letterBytes, each for the one of its place.
	letters     = "abfnrtv"
	letterBytes = "\a\b\f\n\r\t\v"

	mostDigits = 3
	hexDigits  = 2
)

// quoted reads a text in quotes; false: something is wrong of it.
func (r *reader) quoted() (string, bool) {
	quote := r.take(1)[0]
	var text []byte
	for r.rest() != "" {
		c := r.take(1)[0]
		switch c {
		case quote:
			return string(text), true
		case '\n':
			return "", false
		case '\\':
			meant, ok := r.escaped()
			if !ok {
				return "", false
			}
			text = append(text, meant...)
		default:
			text = append(text, c)
		}
	}
	return "", false
}

// escaped reads what stands behind a backslash, and is the bytes that it stands for; false: it may not stand there.
func (r *reader) escaped() ([]byte, bool) {
	if r.rest() == "" {
		return nil, false
	}
	switch c := r.rest()[0]; c {
	case 'a', 'b', 'f', 'n', 'r', 't', 'v':
		c = letterBytes[strings.IndexByte(letters, c)]
		fallthrough // from here on a letter's byte is one that stands for itself
	case '\\', '\'', '"', '\n':
		r.take(1)
		return []byte{c}, true
	case 'z':
		r.take(1)
		r.take(run(r.rest(), isBlank))
		return nil, true
	case 'x':
		r.take(1)
		return r.code(16, isHexDigit, hexDigits, hexDigits)
	case '0', '1', '2', '3', '4', '5', '6', '7', '8', '9':
		return r.code(10, isDigit, 1, mostDigits)
	}
	return nil, false
}

// code reads the number of a byte, least to most digits of a base; false: they aren't there, or are no byte's number.
func (r *reader) code(base int64, kind func(byte) bool, least, most int) ([]byte, bool) {
	digits := r.take(min(most, run(r.rest(), kind)))
	n, ok := conv.Base(digits, base)
	if !ok || len(digits) < least || n > math.MaxUint8 {
		return nil, false
	}
	return []byte{byte(n)}, true
}

// begins says whether s begins with a long bracket.
func begins(s string) bool { return opening(s) > 0 }

// opening is how many bytes the opening of a long bracket at the beginning of s has; 0: there is none.
func opening(s string) int {
	inner, ok := strings.CutPrefix(s, "[")
	if !ok {
		return 0
	}
	inner, ok = strings.CutPrefix(strings.TrimLeft(inner, "="), "[")
	if !ok {
		return 0
	}
	return len(s) - len(inner)
}

// bracketed reads a long bracket that begins here, and is its text; false: it has no end.
func (r *reader) bracketed() (string, bool) {
	size := opening(r.rest())
	closing := strings.ReplaceAll(r.take(size), "[", "]")
	text, _, ok := strings.Cut(r.rest(), closing)
	if !ok {
		return "", false
	}
	r.take(len(text) + len(closing))
	return strings.TrimPrefix(text, "\n"), true
}

func isHexDigit(c byte) bool { return isDigit(c) || 'a' <= c && c <= 'f' || 'A' <= c && c <= 'F' }
