package lex_test

import (
	"errors"
	"fmt"
	"math"
	"math/rand"
	"slices"
	"strings"
	"testing"

	"selkie/api"
	"selkie/lex"
)

const keywords = "and break do else elseif end false for function goto if in local nil not or repeat return then true until while"

const signs = "+ - * // % & | ~ << >> .. ... == ~= < <= > >= = ( ) { } [ ] ; : :: , . #"

func name(line int, s string) api.Token  { return api.Token{Kind: api.Name, Line: line, S: s} }
func word(line int, s string) api.Token  { return api.Token{Kind: api.Word, Line: line, S: s} }
func text(line int, s string) api.Token  { return api.Token{Kind: api.Text, Line: line, S: s} }
func sign(line int, s string) api.Token  { return api.Token{Kind: api.Sign, Line: line, S: s} }
func number(line int, n int64) api.Token { return api.Token{Kind: api.Number, Line: line, N: n} }
func end(line int) api.Token             { return api.Token{Line: line} }
func tokens(l ...api.Token) told         { return told{tokens: l} }
func wrong(line int, err api.Errno) told { return told{line: line, err: err} }
func holds(t *testing.T, l map[string]told) {
	t.Helper()
	for src, want := range l {
		hold(t, src, want)
		// The two ways in which these tests say what is right must not part.
		check(t, src)
	}
}

// P5.1: the chapter's examples.
func TestExamples(t *testing.T) {
	holds(t, map[string]told{
		`x=0x10--[[c]]..'a\65'`: tokens(name(1, "x"), sign(1, "="), number(1, 16), sign(1, ".."), text(1, "aA"), end(1)),
		"1.5":                   wrong(1, api.ErrLex),
		"!":                     wrong(1, api.ErrLex),
	})
}

// P5.1: ordinary sources.
func TestOrdinarySources(t *testing.T) {
	holds(t, map[string]told{
		"":                         tokens(end(1)),
		"local x = 1":              tokens(word(1, "local"), name(1, "x"), sign(1, "="), number(1, 1), end(1)),
		"f(a, 'b')\nreturn t.x[1]": tokens(name(1, "f"), sign(1, "("), name(1, "a"), sign(1, ","), text(1, "b"), sign(1, ")"), word(2, "return"), name(2, "t"), sign(2, "."), name(2, "x"), sign(2, "["), number(2, 1), sign(2, "]"), end(2)),
		"goto l;::l::":             tokens(word(1, "goto"), name(1, "l"), sign(1, ";"), sign(1, "::"), name(1, "l"), sign(1, "::"), end(1)),
		"a[b[[c]]]":                tokens(name(1, "a"), sign(1, "["), name(1, "b"), text(1, "c"), sign(1, "]"), end(1)),
		"- -1 --1\n#t":             tokens(sign(1, "-"), sign(1, "-"), number(1, 1), sign(2, "#"), name(2, "t"), end(2)),
	})
}

// P5.1: which bytes are blanks, begin a token, or begin none, alone and between tokens.
func TestEachByte(t *testing.T) {
	for c := range 256 {
		s := string([]byte{byte(c)})
		check(t, s)
		check(t, "a"+s+"b")
		check(t, "1"+s+"2")
		check(t, "a\n"+s)
		check(t, "\n"+s+"\na")
		check(t, "[["+s+"]]"+s)
		check(t, "--"+s+"\n"+s)
		blank := c >= 9 && c <= 13 || c == 32
		is := got(t, s)
		if blank != (len(is.tokens) == 1) {
			t.Errorf("byte %d: %v", c, is)
		}
		begins := strings.Contains(strings.ReplaceAll(signs, "//", "")+"0123456789ABCDEFGHIJKLMNOPQRSTUVWXYZ_abcdefghijklmnopqrstuvwxyz", s)
		if !blank && begins != (is.err == api.OK) {
			t.Errorf("byte %d: %v", c, is)
		}
	}
	holds(t, map[string]told{
		"\t\v\f\r a": tokens(name(1, "a"), end(1)),
		"\r\n\ra":    tokens(name(2, "a"), end(2)),
		"a\x08":      wrong(1, api.ErrLex),
		"a\x0e":      wrong(1, api.ErrLex),
		"a\x1f":      wrong(1, api.ErrLex),
		"a\x00":      wrong(1, api.ErrLex),
		"a\u00a0":    wrong(1, api.ErrLex),
		"é":          wrong(1, api.ErrLex),
		"a\n\x7f":    wrong(2, api.ErrLex),
		"\n\n\xff":   wrong(3, api.ErrLex),
	})
}

// P5.1: each two bytes beside one another.
func TestEachTwoBytes(t *testing.T) {
	for a := range 256 {
		for b := range 256 {
			check(t, string([]byte{byte(a), byte(b)}))
		}
	}
}

// P5.1, P5.2: a byte 10 ends a line wherever it stands.
func TestLines(t *testing.T) {
	holds(t, map[string]told{
		"\n":                        tokens(end(2)),
		"\n\n\n":                    tokens(end(4)),
		"a\n":                       tokens(name(1, "a"), end(2)),
		"a\nb":                      tokens(name(1, "a"), name(2, "b"), end(2)),
		"a\r\nb\rc":                 tokens(name(1, "a"), name(2, "b"), name(2, "c"), end(2)),
		"--\na":                     tokens(name(2, "a"), end(2)),
		"--[[\n\n]]a--[[\n]]":       tokens(name(3, "a"), end(4)),
		"[[\n\n]]a":                 tokens(text(1, "\n"), name(3, "a"), end(3)),
		"[[\n]][[\n]]\n":            tokens(text(1, ""), text(2, ""), end(4)),
		"'\\\n' a":                  tokens(text(1, "\n"), name(2, "a"), end(2)),
		"'\\\n\\\n\\z\n\n' a":       tokens(text(1, "\n\n"), name(5, "a"), end(5)),
		"\n'\\z\n \n' '\\\n'\n":     tokens(text(2, ""), text(4, "\n"), end(6)),
		"'\\n\\10\\x0a' a":          tokens(text(1, "\n\n\n"), name(1, "a"), end(1)),
		"'\\z\n\\q'":                wrong(1, api.ErrLex),
		"\n'\\\n\\\n":               wrong(2, api.ErrLex),
		"\n'\\z\n\n":                wrong(2, api.ErrLex),
		"\n[[\n\n":                  wrong(2, api.ErrLex),
		"\n--[[\n\n":                wrong(2, api.ErrLex),
		"'\\\n' 'a\n'":              wrong(2, api.ErrLex),
		"--[[\n]] --[[\n]] --[=[\n": wrong(3, api.ErrLex),
		"[[\n]] !\n":                wrong(2, api.ErrLex),
	})
}

// P5.1: comments.
func TestComments(t *testing.T) {
	holds(t, map[string]told{
		"--":                  tokens(end(1)),
		"a--":                 tokens(name(1, "a"), end(1)),
		"a--b c ' [[ !\nd":    tokens(name(1, "a"), name(2, "d"), end(2)),
		"a---b\n-c":           tokens(name(1, "a"), sign(2, "-"), name(2, "c"), end(2)),
		"a--[[b\n]]c":         tokens(name(1, "a"), name(2, "c"), end(2)),
		"a--[==[b]]]=]]==]c":  tokens(name(1, "a"), name(1, "c"), end(1)),
		"--[b]]\nc":           tokens(name(2, "c"), end(2)),
		"--[=b[[\nc":          tokens(name(2, "c"), end(2)),
		"--[=":                tokens(end(1)),
		"--[":                 tokens(end(1)),
		"--[==\n[c":           tokens(sign(2, "["), name(2, "c"), end(2)),
		"-- [[b\nc":           tokens(name(2, "c"), end(2)),
		"--\n[[b]]":           tokens(text(2, "b"), end(2)),
		"---[[b\nc":           tokens(name(2, "c"), end(2)),
		"--]]\nc":             tokens(name(2, "c"), end(2)),
		"--[[--]]c":           tokens(name(1, "c"), end(1)),
		"--[[]]--[[]]--\n--c": tokens(end(2)),
		"--[[":                wrong(1, api.ErrLex),
		"--[[b]":              wrong(1, api.ErrLex),
		"a\n--[=[b]]\n\n":     wrong(2, api.ErrLex),
		"--[=[b]==]":          wrong(1, api.ErrLex),
		"--[[--[[b]]]]":       tokens(sign(1, "]"), sign(1, "]"), end(1)),
	})
}

// P5.1: long brackets.
func TestLongBrackets(t *testing.T) {
	holds(t, map[string]told{
		"[[]]":                 tokens(text(1, ""), end(1)),
		"[[a]]":                tokens(text(1, "a"), end(1)),
		"[=[]=]":               tokens(text(1, ""), end(1)),
		"[=[a]]b]=]":           tokens(text(1, "a]]b"), end(1)),
		"[==[a]=]b]===]c]]==]": tokens(text(1, "a]=]b]===]c]"), end(1)),
		"[=[[[a]]]=]":          tokens(text(1, "[[a]]"), end(1)),
		"[=[]==]=]":            tokens(text(1, "]=="), end(1)),
		"[[[a]]]":              tokens(text(1, "[a"), sign(1, "]"), end(1)),
		"[[\n]]":               tokens(text(1, ""), end(2)),
		"[[\n\na\n]]":          tokens(text(1, "\na\n"), end(4)),
		"[[\r\na]]":            tokens(text(1, "\r\na"), end(2)),
		"[[ \na]]":             tokens(text(1, " \na"), end(2)),
		"[==[\n]==]":           tokens(text(1, ""), end(2)),
		"[[\\n\\]]":            tokens(text(1, "\\n\\"), end(1)),
		"[[a--b]]":             tokens(text(1, "a--b"), end(1)),
		"[['\"]]":              tokens(text(1, "'\""), end(1)),
		"[[\x00\xff]]":         tokens(text(1, "\x00\xff"), end(1)),
		"[=a":                  tokens(sign(1, "["), sign(1, "="), name(1, "a"), end(1)),
		"[==a":                 tokens(sign(1, "["), sign(1, "=="), name(1, "a"), end(1)),
		"[===":                 tokens(sign(1, "["), sign(1, "=="), sign(1, "="), end(1)),
		"[= [":                 tokens(sign(1, "["), sign(1, "="), sign(1, "["), end(1)),
		"[":                    tokens(sign(1, "["), end(1)),
		"[ [a]]":               tokens(sign(1, "["), sign(1, "["), name(1, "a"), sign(1, "]"), sign(1, "]"), end(1)),
		"]==]":                 tokens(sign(1, "]"), sign(1, "=="), sign(1, "]"), end(1)),
		"[=[=[a]=]":            tokens(text(1, "=[a"), end(1)),
		"[[":                   wrong(1, api.ErrLex),
		"[[]":                  wrong(1, api.ErrLex),
		"a\n[=[a]]":            wrong(2, api.ErrLex),
		"[==[a]=]]===]":        wrong(1, api.ErrLex),
		"[=[a]=":               wrong(1, api.ErrLex),
	})
	for level := range 40 {
		bar := strings.Repeat("=", level)
		hold(t, "["+bar+"["+bar+"]="+bar+"]\n]"+bar+"]", tokens(text(1, bar+"]="+bar+"]\n"), end(2)))
		hold(t, "\n["+bar+"["+bar+"]="+bar+"]\n]"+bar, wrong(2, api.ErrLex))
	}
}

// P5.1: keywords, and names that are nearly one.
func TestWords(t *testing.T) {
	list := strings.Fields(keywords)
	for _, w := range list {
		if !lex.Word(w) {
			t.Errorf("%s is a keyword", w)
		}
		hold(t, w, tokens(word(1, w), end(1)))
		near := []string{w + "_", "_" + w, w + "1", w + "s", strings.ToUpper(w), strings.ToUpper(w[:1]) + w[1:], w + w}
		for i := range len(w) {
			near = append(near, w[:i]+"q"+w[i+1:], w[:i]+strings.ToUpper(w[i:i+1])+w[i+1:], w[:i]+"_"+w[i:])
			if cut := w[:i] + w[i+1:]; cut != "" && !slices.Contains(list, cut) {
				near = append(near, cut)
			}
		}
		for _, s := range near {
			if lex.Word(s) {
				t.Errorf("%s is no keyword", s)
			}
			hold(t, s, tokens(name(1, s), end(1)))
		}
	}
	for _, s := range []string{"", " ", "and ", " and", "and or", "nd br", "an", "\x00and", "and\x00", "1", "=", "selkie", keywords} {
		if lex.Word(s) {
			t.Errorf("%q is no keyword", s)
		}
	}
	every("adefilnorst", 4, func(s string) {
		if lex.Word(s) != wordPattern.MatchString(s) {
			t.Errorf("Word(%s)", s)
		}
	})
}

// P5.1: names.
func TestNames(t *testing.T) {
	all := "_abcdefghijklmnopqrstuvwxyzABCDEFGHIJKLMNOPQRSTUVWXYZ0123456789"
	holds(t, map[string]told{
		"_":      tokens(name(1, "_"), end(1)),
		"_1":     tokens(name(1, "_1"), end(1)),
		"a1b_":   tokens(name(1, "a1b_"), end(1)),
		"x.y":    tokens(name(1, "x"), sign(1, "."), name(1, "y"), end(1)),
		"x'y'":   tokens(name(1, "x"), text(1, "y"), end(1)),
		"x-y":    tokens(name(1, "x"), sign(1, "-"), name(1, "y"), end(1)),
		"end.if": tokens(word(1, "end"), sign(1, "."), word(1, "if"), end(1)),
		"x\x80":  wrong(1, api.ErrLex),
		"x@":     wrong(1, api.ErrLex),
		"x`":     wrong(1, api.ErrLex),
		"x$":     wrong(1, api.ErrLex),
		all:      tokens(name(1, all), end(1)),
	})
}

// P5.1: numbers.
func TestNumbers(t *testing.T) {
	for src, n := range map[string]int64{"0": 0, "7": 7, "007": 7, "9223372036854775807": math.MaxInt64, "00009223372036854775807": math.MaxInt64, "0x0": 0, "0xfF": 255, "0XaB": 171, "0x7fffffffffffffff": math.MaxInt64, "0x8000000000000000": math.MinInt64, "0xffffffffffffffff": -1, "0x1ffffffffffffffff": -1, "0x10000000000000000": 0} {
		hold(t, src, tokens(number(1, n), end(1)))
		hold(t, "-"+src+";", tokens(sign(1, "-"), number(1, n), sign(1, ";"), end(1)))
		hold(t, "["+src+"]", tokens(sign(1, "["), number(1, n), sign(1, "]"), end(1)))
		hold(t, "."+src, tokens(sign(1, "."), number(1, n), end(1)))
		hold(t, src+" ..", tokens(number(1, n), sign(1, ".."), end(1)))
		for _, behind := range []string{"_", ".", "g", "..", ".5", "...", "G", "h+", "z'"} {
			hold(t, "\n"+src+behind, wrong(2, api.ErrLex))
		}
		check(t, src)
	}
	for _, src := range []string{"9223372036854775808", "18446744073709551616", "99999999999999999999", "1a", "1x", "1_000", "0x", "0X", "0xg", "0x_1", "0x1.", "1e5", "1.5", "1..2", "3.", "00x1", "1x1", "5end"} {
		hold(t, src, wrong(1, api.ErrLex))
		hold(t, "a\n "+src+"\n", wrong(2, api.ErrLex))
		check(t, src)
	}
	hold(t, "1+2", tokens(number(1, 1), sign(1, "+"), number(1, 2), end(1)))
	hold(t, "0x1-0xf", tokens(number(1, 1), sign(1, "-"), number(1, 15), end(1)))
	every("01x.aFg_9", 4, func(s string) { check(t, s); check(t, "0x"+s) })
}

// P5.1: quotes of both kinds.
func TestQuotes(t *testing.T) {
	holds(t, map[string]told{
		`''`:                       tokens(text(1, ""), end(1)),
		`""`:                       tokens(text(1, ""), end(1)),
		`'"'`:                      tokens(text(1, `"`), end(1)),
		`"'"`:                      tokens(text(1, `'`), end(1)),
		`'a''b'`:                   tokens(text(1, "a"), text(1, "b"), end(1)),
		`"a"'b'`:                   tokens(text(1, "a"), text(1, "b"), end(1)),
		`'\'\"\\'`:                 tokens(text(1, `'"\`), end(1)),
		`"\'\"\\"`:                 tokens(text(1, `'"\`), end(1)),
		`'\a\b\f\n\r\t\v'`:         tokens(text(1, "\x07\x08\x0c\x0a\x0d\x09\x0b"), end(1)),
		`'a--b[[c]]'`:              tokens(text(1, "a--b[[c]]"), end(1)),
		"'\x00\x01\xff\r\t'":       tokens(text(1, "\x00\x01\xff\r\t"), end(1)),
		"'é日'":                     tokens(text(1, "é日"), end(1)),
		`'\x41\x7a\xFf\x000'`:      tokens(text(1, "Az\xff\x000"), end(1)),
		`'\65\066\0\2550\1234\9z'`: tokens(text(1, "AB\x00\xff0{4\tz"), end(1)),
		"'a\\z \t\v\f\r\n\n b'c":   tokens(text(1, "ab"), name(3, "c"), end(3)),
		"'\\z'":                    tokens(text(1, ""), end(1)),
		"'\\za\\z\\z \\n'":         tokens(text(1, "a\n"), end(1)),
		"'\\\n\\\r'":               wrong(1, api.ErrLex),
		"'\\z\x08'":                tokens(text(1, "\x08"), end(1)),
		"'\\z\x0e \x1f'":           tokens(text(1, "\x0e \x1f"), end(1)),
		`'`:                        wrong(1, api.ErrLex),
		`"`:                        wrong(1, api.ErrLex),
		`'a"`:                      wrong(1, api.ErrLex),
		`"a'`:                      wrong(1, api.ErrLex),
		`'\'`:                      wrong(1, api.ErrLex),
		`'\`:                       wrong(1, api.ErrLex),
		`'\z`:                      wrong(1, api.ErrLex),
		`'\x`:                      wrong(1, api.ErrLex),
		`'\x4`:                     wrong(1, api.ErrLex),
		`'\x41`:                    wrong(1, api.ErrLex),
		`'\x'`:                     wrong(1, api.ErrLex),
		`'\x4'`:                    wrong(1, api.ErrLex),
		`'\x4g'`:                   wrong(1, api.ErrLex),
		`'\xg4'`:                   wrong(1, api.ErrLex),
		`'\X41'`:                   wrong(1, api.ErrLex),
		`'\x 4'`:                   wrong(1, api.ErrLex),
		`'\x-4'`:                   wrong(1, api.ErrLex),
		`'\1`:                      wrong(1, api.ErrLex),
		`'\256'`:                   wrong(1, api.ErrLex),
		`'\999'`:                   wrong(1, api.ErrLex),
		`'\300'`:                   wrong(1, api.ErrLex),
		`'\-1'`:                    wrong(1, api.ErrLex),
		"'\n'":                     wrong(1, api.ErrLex),
		"'a\n":                     wrong(1, api.ErrLex),
		"'\\z\n\\n\n'":             wrong(1, api.ErrLex),
		"'\\\n\n'":                 wrong(1, api.ErrLex),
		"'\\z\na\n'":               wrong(1, api.ErrLex),
	})
}

// P5.1: what may stand behind a backslash, and what may not.
func TestBackslash(t *testing.T) {
	for c := range 256 {
		s := string([]byte{byte(c)})
		for _, behind := range []string{"", "0", "00", "41", "4", "g", " ", "\\n", "\n"} {
			check(t, `'\`+s+behind+`'`)
			check(t, `"\`+s+behind+`"`)
		}
		may := strings.Contains("abfnrtv\\'\"\nz0123456789", s)
		if is := got(t, `'\`+s+` '`); (is.err == api.OK) != may {
			t.Errorf("byte %d behind a backslash: %v", c, is)
		}
	}
	for n := range 1000 {
		check(t, fmt.Sprintf(`'\%d'`, n))
		check(t, fmt.Sprintf(`'\%03d9'`, n))
		check(t, fmt.Sprintf(`'\%da'`, n))
		want := wrong(1, api.ErrLex)
		if n < 256 {
			want = tokens(text(1, string([]byte{byte(n)})), end(1))
		}
		hold(t, fmt.Sprintf(`'\%03d'`, n), want)
	}
	for n := range 256 {
		want := tokens(text(1, string([]byte{byte(n)})+"f"), end(1))
		hold(t, fmt.Sprintf(`"\x%02xf"`, n), want)
		hold(t, fmt.Sprintf(`"\x%02Xf"`, n), want)
	}
	every("'\\x4z \nf2", 5, func(s string) { check(t, "'"+s) })
}

// P5.1: signs, alone and one behind the other.
func TestSigns(t *testing.T) {
	list := strings.Fields(signs)
	for _, s := range list {
		hold(t, s, tokens(sign(1, s), end(1)))
		hold(t, "a"+s+" b", tokens(name(1, "a"), sign(1, s), name(1, "b"), end(1)))
		for _, other := range list {
			check(t, s+other)
			hold(t, s+" "+other, tokens(sign(1, s), sign(1, other), end(1)))
		}
	}
	holds(t, map[string]told{
		".....":   tokens(sign(1, "..."), sign(1, ".."), end(1)),
		"....":    tokens(sign(1, "..."), sign(1, "."), end(1)),
		"===":     tokens(sign(1, "=="), sign(1, "="), end(1)),
		"~==":     tokens(sign(1, "~="), sign(1, "="), end(1)),
		"~~=":     tokens(sign(1, "~"), sign(1, "~="), end(1)),
		"<<=":     tokens(sign(1, "<<"), sign(1, "="), end(1)),
		"<=<":     tokens(sign(1, "<="), sign(1, "<"), end(1)),
		">>>=":    tokens(sign(1, ">>"), sign(1, ">="), end(1)),
		":::":     tokens(sign(1, "::"), sign(1, ":"), end(1)),
		"////":    tokens(sign(1, "//"), sign(1, "//"), end(1)),
		"{}()[];": tokens(sign(1, "{"), sign(1, "}"), sign(1, "("), sign(1, ")"), sign(1, "["), sign(1, "]"), sign(1, ";"), end(1)),
		"/":       wrong(1, api.ErrLex),
		"///":     wrong(1, api.ErrLex),
		"a\n/ /":  wrong(2, api.ErrLex),
		"!=":      wrong(1, api.ErrLex),
		"^":       wrong(1, api.ErrLex),
		"?":       wrong(1, api.ErrLex),
		"\\":      wrong(1, api.ErrLex),
	})
	every("<>=~.:/-+", 4, func(s string) { check(t, s) })
}

// P5.1: all short rows of what long brackets and comments turn on.
func TestShortRows(t *testing.T) {
	every("[]=-\na'", 5, func(s string) { check(t, s) })
	every("[]=", 6, func(s string) { check(t, "[["+s); check(t, "--[="+s+"\na") })
}

// P5.1: the first thing wrong is told, from the front.
func TestFirstWrong(t *testing.T) {
	holds(t, map[string]told{
		"!\n1.5":          wrong(1, api.ErrLex),
		"a\n1.5 'a\n":     wrong(2, api.ErrLex),
		"\n'\\q\n!":       wrong(2, api.ErrLex),
		"a\n\n--[[\n!\n'": wrong(3, api.ErrLex),
		"a -- !\n\n$":     wrong(3, api.ErrLex),
	})
}

// P5.1: how long a source may be.
func TestMaxSource(t *testing.T) {
	const most = 65536
	for _, pair := range []struct{ one, two string }{{"", " "}, {"", "\n"}, {"a", "b"}, {"--", "c"}, {"1\n", "\n"}, {"'", "x"}, {"[[", "]"}, {"!", " "}, {"", "\xff"}, {"\n--[[", "-"}} {
		src := pair.one + strings.Repeat(pair.two, most-len(pair.one))
		check(t, src)
		hold(t, src+" ", wrong(1, api.ErrFull))
		hold(t, src+src, wrong(1, api.ErrFull))
	}
	hold(t, strings.Repeat("a", most), tokens(name(1, strings.Repeat("a", most)), end(1)))
	hold(t, strings.Repeat("\n", most), tokens(end(most+1)))
	hold(t, "'"+strings.Repeat("x", most-2)+"'", tokens(text(1, strings.Repeat("x", most-2)), end(1)))
	hold(t, "0x"+strings.Repeat("f", most-2), tokens(number(1, -1), end(1)))
	hold(t, strings.Repeat("0", most-1)+"1", tokens(number(1, 1), end(1)))
	hold(t, "["+strings.Repeat("=", most-2)+"[", wrong(1, api.ErrLex))
	hold(t, "'"+strings.Repeat("\\9", most/2-1)+"'", tokens(text(1, strings.Repeat("\t", most/2-1)), end(1)))
	hold(t, strings.Repeat("\n", most-1)+"!", wrong(most, api.ErrLex))
	hold(t, strings.Repeat("!", most+1), wrong(1, api.ErrFull))
	hold(t, strings.Repeat(" ", 1<<20), wrong(1, api.ErrFull))
}

// P5.1: how many tokens there may be, Eof among them.
func TestMaxTokens(t *testing.T) {
	const most = 16384
	for _, token := range []string{";", "a ", "1 ", "''", "(", "do\n", "..\n"} {
		one := strings.Repeat(token, most-1)
		if l := got(t, one).tokens; len(l) != most || l[most-1].Kind != api.Eof || l[most-1].Line != lineAt(one, len(one)) {
			t.Errorf("%d times %q: %d tokens", most-1, token, len(l))
		}
		check(t, one)
		all := one + token
		at := lineAt(all, len(all))
		for _, behind := range []string{"", " ", "\t\v", "\r"} {
			hold(t, all+behind, wrong(at, api.ErrFull))
		}
		for _, more := range []string{"a", ";", "'a'", "'", "!", "1.5", "\xff", "'\\q'", "'\n'", "'\\\n'", "[[\n]]", "[[\n", "nil\n\n", "/", "a\n!"} {
			hold(t, all+" "+more, wrong(at, api.ErrFull))
			hold(t, all+"\n\n"+more, wrong(at+2, api.ErrFull))
			hold(t, all+"--[[\n]]"+more, wrong(at+1, api.ErrFull))
			if token == ";" {
				check(t, one+" "+more)
				check(t, one+" "+more+" "+token)
			}
		}
		hold(t, all+"\n--a\n", wrong(at+2, api.ErrFull))
		hold(t, all+"\n--[[a\n]]", wrong(at+2, api.ErrFull))
		// A comment is no token: it is read ahead of asking whether there is room for what stands behind it.
		hold(t, all+"\n--[[a\n", wrong(at+1, api.ErrLex))
		hold(t, one+"\n!", wrong(lineAt(one, len(one))+1, api.ErrLex))
		hold(t, one+"--[[", wrong(lineAt(one, len(one)), api.ErrLex))
		hold(t, "\n!"+all, wrong(2, api.ErrLex))
	}
	hold(t, strings.Repeat(";", 65536), wrong(1, api.ErrFull))
	hold(t, strings.Repeat("\n;", 32768), wrong(most+2, api.ErrFull))
}

// P5.1: an error is a fault with a line, that unwraps to its Errno, and there are no tokens beside it.
func TestErrors(t *testing.T) {
	for src, want := range map[string]api.Fault{"\n!": {Line: 2, Err: api.ErrLex}, strings.Repeat("\n", 65537): {Line: 1, Err: api.ErrFull}, "\n" + strings.Repeat(";", 16384): {Line: 2, Err: api.ErrFull}} {
		l, err := lex.Lex(src)
		var f *api.Fault
		if len(l) != 0 || !errors.As(err, &f) || *f != want {
			t.Errorf("Lex(%.20q): %d tokens, %v", src, len(l), err)
		}
		for no := api.OK; no <= api.ErrState; no++ {
			if errors.Is(err, no) != (want.Err == error(no)) {
				t.Errorf("Lex(%.20q) is %v", src, no)
			}
		}
	}
	if _, err := lex.Lex("a"); err != nil {
		t.Errorf("an error where nothing is wrong: %v", err)
	}
}

// pieces are tokens and what stands between them, right and wrong ones.
func pieces() []string {
	l := append(strings.Fields(keywords), strings.Fields(signs)...)
	l = append(l, "x", "_y", "Z9", "0", "12", "0xfe", "1.5", "7q", "'a'", `"b"`, `'\n\65\x41'`, `'\z`, "'", `"`, `\`, "[[a]]", "[=[\n]]\n]=]", "[[", "]]", "[=[", "]=]", "--", "--c", "--[[d\n]]", "--[=[", "!", "$", "\x00", "\xff", "é")
	for range 12 {
		l = append(l, " ", "\n")
	}
	return append(l, "\t", "\v", "\f", "\r", "  \n ")
}

// P5.1: rows of pieces, with and without blanks between them.
func TestRows(t *testing.T) {
	list, pick := pieces(), rand.New(rand.NewSource(5))
	for range 30000 {
		var src strings.Builder
		for range pick.Intn(14) {
			src.WriteString(list[pick.Intn(len(list))])
			src.WriteString([]string{"", " "}[pick.Intn(2)])
		}
		check(t, src.String())
	}
}

// good is a row of tokens, with what each is written as.
func good(pick *rand.Rand) (written []string, meant []api.Token) {
	for range pick.Intn(12) {
		switch pick.Intn(4) {
		case 0:
			s := strings.Fields("x _ y1 andy End Z_9 elses")[pick.Intn(7)]
			written, meant = append(written, s), append(meant, name(0, s))
		case 1:
			n := int64(pick.Uint64()) >> pick.Intn(64)
			s := fmt.Sprintf("0x%x", uint64(n))
			if n >= 0 && pick.Intn(2) == 0 {
				s = fmt.Sprint(n)
			}
			written, meant = append(written, s), append(meant, number(0, n))
		case 2:
			s := make([]byte, pick.Intn(6))
			pick.Read(s)
			written, meant = append(written, quote(pick, string(s))), append(meant, text(0, string(s)))
		case 3:
			list := strings.Fields(signs + " " + keywords)
			at := pick.Intn(len(list))
			kind := api.Sign
			if at >= len(strings.Fields(signs)) {
				kind = api.Word
			}
			written, meant = append(written, list[at]), append(meant, api.Token{Kind: kind, S: list[at]})
		}
	}
	return written, meant
}

// quote writes a text down in one of the ways in which it may be written.
func quote(pick *rand.Rand, s string) string {
	switch pick.Intn(3) {
	case 0:
		return "[====[\n" + s + "]====]"
	case 1:
		out := "'"
		for i := range len(s) {
			out += []string{fmt.Sprintf("\\%03d", s[i]), fmt.Sprintf("\\x%02X", s[i]), fmt.Sprintf("\\z \n\t\\%03d", s[i])}[pick.Intn(3)]
		}
		return out + "'"
	}
	r := strings.NewReplacer("\\", "\\\\", "\"", "\\\"", "\n", "\\\n")
	return "\"" + r.Replace(s) + "\""
}

// P5.2: names, numbers and texts that were written are read; blanks and comments between say nothing but lines; lines never fall.
func TestWrittenIsRead(t *testing.T) {
	between := []string{" ", "\n", "\t \r\n", " --\n", "--[[c]]", "--[==[\n]]\n]==]", " -- 'a\n--b\n ", "\v--[[]]\f"}
	pick := rand.New(rand.NewSource(52))
	for range 4000 {
		written, meant := good(pick)
		src, line := "", 1
		add := func(s string) {
			src += s
			line += strings.Count(s, "\n")
		}
		// A blank ahead of a comment: behind a - it would not begin one.
		add(" " + between[pick.Intn(len(between))])
		for i, s := range written {
			meant[i].Line = line
			add(s)
			add(" " + between[pick.Intn(len(between))])
		}
		hold(t, src, told{tokens: append(meant, end(line))})
	}
}

// P5.2: what stands between tokens may be any blanks and comments: with as many lines, nothing changes.
func TestBetween(t *testing.T) {
	list, pick := pieces(), rand.New(rand.NewSource(53))
	for range 4000 {
		one, two := "", ""
		for range pick.Intn(8) {
			piece := list[pick.Intn(len(list))]
			if expected(piece).err != api.OK || strings.HasPrefix(piece, "--") {
				continue
			}
			one += piece + " \n\n"
			two += piece + []string{"\n\n", "\n--[[ ]]\n\t", " --[=[\n\n]=]", " --x\n--y\n", "\n --[[\n]]"}[pick.Intn(5)]
		}
		hold(t, two, got(t, one))
	}
}

// P5.2: each byte of a text, in quotes of both kinds and in long brackets, is read.
func TestEachByteIsRead(t *testing.T) {
	all := make([]byte, 256)
	for c := range all {
		all[c] = byte(c)
	}
	s := string(all)
	hold(t, "[["+s+"]]", tokens(text(1, s), end(2)))
	for _, q := range []string{"'", "\""} {
		r := strings.NewReplacer("\\", "\\\\", q, "\\"+q, "\n", "\\\n")
		hold(t, q+r.Replace(s)+q, tokens(text(1, s), end(2)))
	}
}

// An answer is new memory: what is done to one changes no other.
func TestNewMemory(t *testing.T) {
	const src = "a = 'b' .. 1"
	one, _ := lex.Lex(src)
	two, _ := lex.Lex(src)
	for i := range one[:cap(one)] {
		one[:cap(one)][i] = api.Token{Kind: 99, S: "z"}
	}
	if !slices.Equal(two, expected(src).tokens) {
		t.Error(two)
	}
	hold(t, src, expected(src))
}
