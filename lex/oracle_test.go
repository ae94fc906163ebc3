package lex_test

import (
	"errors"
	"fmt"
	"math"
	"math/big"
	"regexp"
	"slices"
	"strings"
	"testing"

	"selkie/api"
	"selkie/lex"
)

// What the chapter calls a token, written once more, by patterns.
var (
	blankPattern   = regexp.MustCompile(`^[\x09-\x0d\x20]+`)
	openPattern    = regexp.MustCompile(`^\[(=*)\[`)
	namePattern    = regexp.MustCompile(`^[A-Za-z_][A-Za-z_0-9]*`)
	wordPattern    = regexp.MustCompile(`^(?:and|break|do|else|elseif|end|false|for|function|goto|if|in|local|nil|not|or|repeat|return|then|true|until|while)$`)
	numberPattern  = regexp.MustCompile(`^[0-9][0-9A-Za-z_.]*`)
	decimalPattern = regexp.MustCompile(`^[0-9]+$`)
	hexPattern     = regexp.MustCompile(`^0[xX]([0-9a-fA-F]+)$`)
	escapePattern  = regexp.MustCompile(`\\(?:[abfnrtv\\'"\n]|x[0-9a-fA-F]{2}|[0-9]{1,3}|z[\x09-\x0d\x20]*)`)
	onePattern     = regexp.MustCompile(`^'((?:[^'\\\n]|` + escapePattern.String() + `)*)'`)
	twoPattern     = regexp.MustCompile(`^"((?:[^"\\\n]|` + escapePattern.String() + `)*)"`)
	signPattern    = regexp.MustCompile(`^(?:\.\.\.|//|<<|>>|\.\.|==|~=|<=|>=|::|[-+*%&|~<>=(){}\[\];:,.#])`)
)

// told is a source's tokens, or the line and the Errno of what is wrong.
type told struct {
	tokens []api.Token
	line   int
	err    api.Errno
}

// show is what is told, in a few words.
func (a told) show() string {
	l := a.tokens[:min(len(a.tokens), 20)]
	return fmt.Sprintf("%d tokens %+v, line %d, %v", len(a.tokens), l, a.line, a.err)
}

// lineAt is the line of a place in a source.
func lineAt(src string, at int) int { return 1 + strings.Count(src[:at], "\n") }

// expected is what the chapter says of a source.
func expected(src string) told {
	if len(src) > 65536 {
		return told{line: 1, err: api.ErrFull}
	}
	var out told
	for at := 0; ; {
		size, ok := between(src[at:])
		at += size
		line := lineAt(src, at)
		if !ok {
			return told{line: line, err: api.ErrLex}
		}
		if len(out.tokens) == 16384 {
			return told{line: line, err: api.ErrFull}
		}
		if at == len(src) {
			out.tokens = append(out.tokens, api.Token{Line: line})
			return out
		}
		token, size := oneToken(src[at:])
		if size == 0 {
			return told{line: line, err: api.ErrLex}
		}
		token.Line = line
		out.tokens = append(out.tokens, token)
		at += size
	}
}

// between is how many bytes of blanks and comments s begins with; false: behind them is a comment without an end.
func between(s string) (int, bool) {
	at := 0
	for {
		size := len(blankPattern.FindString(s[at:]))
		if strings.HasPrefix(s[at:], "--") {
			_, long, isLong := longBracket(s[at+2:])
			if isLong && long == 0 {
				return at, false
			}
			size = 2 + long
			if !isLong {
				size = strings.IndexByte(s[at:]+"\n", '\n')
			}
		}
		if size == 0 {
			return at, true
		}
		at += size
	}
}

// longBracket is a long bracket's text and its size, 0 without an end, if one begins at all.
func longBracket(s string) (string, int, bool) {
	m := openPattern.FindStringSubmatch(s)
	if m == nil {
		return "", 0, false
	}
	whole := regexp.MustCompile(`(?s)^\[` + m[1] + `\[\n?(.*?)\]` + m[1] + `\]`).FindStringSubmatchIndex(s)
	if whole == nil {
		return "", 0, true
	}
	return s[whole[2]:whole[3]], whole[1], true
}

// oneToken is the token that s begins with, and its size; 0: something is wrong.
func oneToken(s string) (api.Token, int) {
	if name := namePattern.FindString(s); name != "" {
		kind := 1
		if wordPattern.MatchString(name) {
			kind = 2
		}
		return api.Token{Kind: kind, S: name}, len(name)
	}
	if digits := numberPattern.FindString(s); digits != "" {
		n, ok := numeral(digits)
		if !ok {
			return api.Token{}, 0
		}
		return api.Token{Kind: 3, N: n}, len(digits)
	}
	for _, pattern := range []*regexp.Regexp{onePattern, twoPattern} {
		if m := pattern.FindStringSubmatch(s); m != nil {
			text, ok := meant(m[1])
			if !ok {
				return api.Token{}, 0
			}
			return api.Token{Kind: 4, S: text}, len(m[0])
		}
	}
	if text, size, ok := longBracket(s); ok {
		return api.Token{Kind: 4, S: text}, size
	}
	sign := signPattern.FindString(s)
	return api.Token{Kind: 5, S: sign}, len(sign)
}

// numeral is a numeral's number, in numbers that don't go round.
func numeral(s string) (int64, bool) {
	if decimalPattern.MatchString(s) {
		n, _ := new(big.Int).SetString(s, 10)
		return n.Int64(), n.Cmp(big.NewInt(math.MaxInt64)) <= 0
	}
	if m := hexPattern.FindStringSubmatch(s); m != nil {
		n, _ := new(big.Int).SetString(m[1], 16)
		return int64(n.And(n, new(big.Int).SetUint64(math.MaxUint64)).Uint64()), true
	}
	return 0, false
}

// meant is the bytes that stand for what is in quotes.
func meant(s string) (string, bool) {
	named := map[byte]string{'a': "\x07", 'b': "\x08", 'f': "\x0c", 'n': "\x0a", 'r': "\x0d", 't': "\x09", 'v': "\x0b", '\\': "\\", '\'': "'", '"': "\"", '\n': "\n", 'z': ""}
	ok := true
	text := escapePattern.ReplaceAllStringFunc(s, func(escape string) string {
		if text, there := named[escape[1]]; there {
			return text
		}
		digits, base := escape[1:], 10
		if digits[0] == 'x' {
			digits, base = digits[1:], 16
		}
		n, _ := new(big.Int).SetString(digits, base)
		ok = ok && n.Int64() < 256
		return string([]byte{byte(n.Int64())})
	})
	return text, ok
}

// got is what Lex says of a source.
func got(t *testing.T, src string) told {
	t.Helper()
	tokens, err := lex.Lex(src)
	if err == nil {
		return told{tokens: tokens}
	}
	if len(tokens) != 0 {
		t.Fatalf("Lex(%.60q): %d tokens beside %v", src, len(tokens), err)
	}
	var f *api.Fault
	var no api.Errno
	if !errors.As(err, &f) || !errors.As(err, &no) || f.Err != error(no) || !errors.Is(err, no) {
		t.Fatalf("Lex(%.60q): %v is no fault that unwraps to an Errno", src, err)
	}
	return told{line: f.Line, err: no}
}

// check holds what Lex says of a source against what the chapter says.
func check(t *testing.T, src string) {
	t.Helper()
	hold(t, src, expected(src))
}

func hold(t *testing.T, src string, want told) {
	t.Helper()
	is := got(t, src)
	if is.line != want.line || is.err != want.err || !slices.Equal(is.tokens, want.tokens) {
		t.Fatalf("Lex(%.60q) of %d bytes: %s, want %s", src, len(src), is.show(), want.show())
	}
}

// every hands on each row of at most so many bytes of an alphabet.
func every(alphabet string, most int, use func(string)) {
	var grow func(s string)
	grow = func(s string) {
		use(s)
		if len(s) == most {
			return
		}
		for i := range len(alphabet) {
			grow(s + alphabet[i:i+1])
		}
	}
	grow("")
}
