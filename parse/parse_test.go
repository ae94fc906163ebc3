package parse_test

import (
	"errors"
	"fmt"
	"strings"
	"testing"

	"selkie/api"
	"selkie/parse"
	"selkie/tree"
)

// told is a source's tree, as text, or the line and the Errno of what is wrong.
type told struct {
	text string
	line int
	err  api.Errno
}

func (a told) show() string { return fmt.Sprintf("%.1000s line %d, %v", a.text, a.line, a.err) }

// got is what Parse says of a source.
func got(t *testing.T, src string) told {
	t.Helper()
	x, err := parse.Parse(src)
	if err == nil {
		if !tree.Right(x) {
			t.Fatalf("%.300q: not Right: %+v", src, x)
		}
		return told{text: tree.Print(x)}
	}
	if len(x.Nodes) != 0 || x.Root != 0 {
		t.Fatalf("%.300q: a tree beside %v", src, err)
	}
	var f *api.Fault
	var no api.Errno
	if !errors.As(err, &f) || !errors.As(err, &no) || f.Err != error(no) || !errors.Is(err, no) {
		t.Fatalf("%.300q: %v is no fault that unwraps to an Errno", src, err)
	}
	return told{line: f.Line, err: no}
}

func holds(t *testing.T, l map[string]told) {
	t.Helper()
	for src, want := range l {
		if is := got(t, src); is != want {
			t.Fatalf("%.300q\n%s\n%s", src, is.show(), want.show())
		}
	}
}

func parsed(t *testing.T, src string) api.Tree {
	t.Helper()
	x, err := parse.Parse(src)
	if err != nil {
		t.Fatalf("%.300q: %v", src, err)
	}
	return x
}

func one(text string) told { return told{text: text} }

func block(text string) told { return told{text: "(block@1 " + text + ")"} }

func syntax(line int) told { return told{line: line, err: api.ErrSyntax} }

// P7.1: the chapter's examples.
func TestExamples(t *testing.T) {
	holds(t, map[string]told{
		"x = 1 + 2 * 3": block(`(assign@1 1 (name@1 "x") (binary@1 1 (int@1 1) (binary@1 3 (int@1 2) (int@1 3))))`),
		"x":             syntax(1),
		"x = ":          syntax(1),
		"x\n\n":         syntax(3),
		"x = \n":        syntax(2),
		"f() = 1":       syntax(1),
		"f()\n= 1":      syntax(2),
	})
}

// P7.1: sources without a token, blocks, the ; and the return.
func TestBlocks(t *testing.T) {
	holds(t, map[string]told{
		"":                       one("(block@1)"),
		" \t\r\v\f":              one("(block@1)"),
		"\n":                     one("(block@2)"),
		"--x":                    one("(block@1)"),
		"--x\n":                  one("(block@2)"),
		"--[[\n\n]]--[=[\n]=]":   one("(block@4)"),
		";":                      one("(block@1)"),
		";;;":                    one("(block@1)"),
		"\n;\n;":                 one("(block@2)"),
		"break":                  block("(break@1)"),
		";break":                 block("(break@1)"),
		"break;":                 block("(break@1)"),
		";;break;;break;;":       block("(break@1) (break@1)"),
		"break break break":      block("(break@1) (break@1) (break@1)"),
		"return":                 block("(return@1)"),
		"return;":                block("(return@1)"),
		"return 1":               block("(return@1 (int@1 1))"),
		"return 1;":              block("(return@1 (int@1 1))"),
		"return 1, 2, 3":         block("(return@1 (int@1 1) (int@1 2) (int@1 3))"),
		"return 1, 2;":           block("(return@1 (int@1 1) (int@1 2))"),
		"break return":           block("(break@1) (return@1)"),
		"break;return;":          block("(break@1) (return@1)"),
		";return":                block("(return@1)"),
		"do return end break":    block("(do@1 (block@1 (return@1))) (break@1)"),
		"do return; end return":  block("(do@1 (block@1 (return@1))) (return@1)"),
		"do return 1 end":        block("(do@1 (block@1 (return@1 (int@1 1))))"),
		"do end do ; end":        block("(do@1 (block@1)) (do@1 (block@1))"),
		"do do end break end":    block("(do@1 (block@1 (do@1 (block@1)) (break@1)))"),
		"repeat return until 1":  block("(repeat@1 (block@1 (return@1)) (int@1 1))"),
		"repeat return; until 1": block("(repeat@1 (block@1 (return@1)) (int@1 1))"),
		"if 1 then return elseif 2 then return; else return 3 end": block("(if@1 (int@1 1) (block@1 (return@1)) (int@1 2) (block@1 (return@1)) (block@1 (return@1 (int@1 3))))"),
	})
}

// P7.1: assignments and calls.
func TestAssignmentsAndCalls(t *testing.T) {
	const a, b, c, i = `(name@1 "a")`, `(name@1 "b")`, `(name@1 "c")`, `(int@1 1)`
	holds(t, map[string]told{
		"a = 1":            block("(assign@1 1 " + a + " " + i + ")"),
		"a, b = 1":         block("(assign@1 2 " + a + " " + b + " " + i + ")"),
		"a = 1, b":         block("(assign@1 1 " + a + " " + i + " " + b + ")"),
		"a, b, c = c, 1":   block("(assign@1 3 " + a + " " + b + " " + c + " " + c + " " + i + ")"),
		"a.b = 1":          block(`(assign@1 1 (index@1 ` + a + ` (str@1 "b")) ` + i + ")"),
		"a[b] = 1":         block(`(assign@1 1 (index@1 ` + a + " " + b + ") " + i + ")"),
		"a[1].b[c] = 1":    block(`(assign@1 1 (index@1 (index@1 (index@1 ` + a + " " + i + `) (str@1 "b")) ` + c + ") " + i + ")"),
		"a.b, c[1] = 1":    block(`(assign@1 2 (index@1 ` + a + ` (str@1 "b")) (index@1 ` + c + " " + i + ") " + i + ")"),
		"(a).b = 1":        block(`(assign@1 1 (index@1 (paren@1 ` + a + `) (str@1 "b")) ` + i + ")"),
		"(a)[b] = 1":       block(`(assign@1 1 (index@1 (paren@1 ` + a + `) ` + b + `) ` + i + ")"),
		"a, (b).c = 1":     block(`(assign@1 2 ` + a + ` (index@1 (paren@1 ` + b + `) (str@1 "c")) ` + i + ")"),
		"a().b = 1":        block(`(assign@1 1 (index@1 (call@1 ` + a + `) (str@1 "b")) ` + i + ")"),
		"a:b().c = 1":      block(`(assign@1 1 (index@1 (method@1 "b" ` + a + `) (str@1 "c")) ` + i + ")"),
		"a, b()[c] = 1":    block(`(assign@1 2 ` + a + ` (index@1 (call@1 ` + b + `) ` + c + ") " + i + ")"),
		"a''.b = 1":        block(`(assign@1 1 (index@1 (call@1 ` + a + ` (str@1 "")) (str@1 "b")) ` + i + ")"),
		"a()":              block("(do-call@1 (call@1 " + a + "))"),
		"a(1)":             block("(do-call@1 (call@1 " + a + " " + i + "))"),
		"a(b, 1, c)":       block("(do-call@1 (call@1 " + a + " " + b + " " + i + " " + c + "))"),
		"a(...)":           block("(do-call@1 (call@1 " + a + " (many@1)))"),
		"a'b'":             block("(do-call@1 (call@1 " + a + ` (str@1 "b")))`),
		`a"b"`:             block("(do-call@1 (call@1 " + a + ` (str@1 "b")))`),
		"a[[b]]":           block("(do-call@1 (call@1 " + a + ` (str@1 "b")))`),
		"a'='":             block("(do-call@1 (call@1 " + a + ` (str@1 "=")))`),
		"a{}":              block("(do-call@1 (call@1 " + a + " (table@1)))"),
		"a{b, 1}":          block("(do-call@1 (call@1 " + a + " (table@1 (pos@1 " + b + ") (pos@1 " + i + "))))"),
		"a(b)'c'{}()":      block("(do-call@1 (call@1 (call@1 (call@1 (call@1 " + a + " " + b + `) (str@1 "c")) (table@1))))`),
		"a:b()":            block(`(do-call@1 (method@1 "b" ` + a + "))"),
		"a:b(c, 1)":        block(`(do-call@1 (method@1 "b" ` + a + " " + c + " " + i + "))"),
		"a:b'c'":           block(`(do-call@1 (method@1 "b" ` + a + ` (str@1 "c")))`),
		"a:b{c}":           block(`(do-call@1 (method@1 "b" ` + a + " (table@1 (pos@1 " + c + "))))"),
		"a:b():c''":        block(`(do-call@1 (method@1 "c" (method@1 "b" ` + a + `) (str@1 "")))`),
		"a.b()":            block("(do-call@1 (call@1 (index@1 " + a + ` (str@1 "b"))))`),
		"a[b]:c()":         block(`(do-call@1 (method@1 "c" (index@1 ` + a + " " + b + ")))"),
		"(a)()":            block("(do-call@1 (call@1 (paren@1 " + a + ")))"),
		"('a'):b()":        block(`(do-call@1 (method@1 "b" (paren@1 (str@1 "a"))))`),
		"({})''":           block(`(do-call@1 (call@1 (paren@1 (table@1)) (str@1 "")))`),
		"a() b() a = 1":    block("(do-call@1 (call@1 " + a + ")) (do-call@1 (call@1 " + b + ")) (assign@1 1 " + a + " " + i + ")"),
		"a();(b)()":        block("(do-call@1 (call@1 " + a + ")) (do-call@1 (call@1 (paren@1 " + b + ")))"),
		"a()\n(b)()":       block("(do-call@1 (call@2 (call@2 (call@1 " + a + `) (name@2 "b"))))`),
		"a = b\n(c)()":     block("(assign@1 1 " + a + ` (call@2 (call@2 ` + b + ` (name@2 "c"))))`),
		"a = 1 (b)()":      block("(assign@1 1 " + a + " " + i + ") (do-call@1 (call@1 (paren@1 " + b + ")))"),
		"a = {} (b).c=1":   block("(assign@1 1 " + a + " (table@1)) (assign@1 1 (index@1 (paren@1 " + b + `) (str@1 "c")) ` + i + ")"),
		"local a (b)()":    block("(local@1 a) (do-call@1 (call@1 (paren@1 " + b + ")))"),
		"goto a (b)()":     block(`(goto@1 "a") (do-call@1 (call@1 (paren@1 ` + b + ")))"),
		"a = 1 b()":        block("(assign@1 1 " + a + " " + i + ") (do-call@1 (call@1 " + b + "))"),
		"a = b c = 1":      block("(assign@1 1 " + a + " " + b + ") (assign@1 1 " + c + " " + i + ")"),
		"a = 'b' 'c'":      syntax(1),
		"a = b\n(c).d = 1": syntax(2),
	})
}

// P7.1: the other statements, each in each of its forms.
func TestStatements(t *testing.T) {
	const a, b, c = `(name@1 "a")`, `(name@1 "b")`, `(name@1 "c")`
	holds(t, map[string]told{
		"::a::":                       block(`(label@1 "a")`),
		":: a :: ::b::":               block(`(label@1 "a") (label@1 "b")`),
		"goto a":                      block(`(goto@1 "a")`),
		"goto a goto b":               block(`(goto@1 "a") (goto@1 "b")`),
		"do end":                      block("(do@1 (block@1))"),
		"do break ; goto a end":       block(`(do@1 (block@1 (break@1) (goto@1 "a")))`),
		"while a do end":              block("(while@1 " + a + " (block@1))"),
		"while a or b do break end":   block("(while@1 (binary@1 19 " + a + " " + b + ") (block@1 (break@1)))"),
		"repeat until a":              block("(repeat@1 (block@1) " + a + ")"),
		"repeat break until a and b":  block("(repeat@1 (block@1 (break@1)) (binary@1 18 " + a + " " + b + "))"),
		"if a then end":               block("(if@1 " + a + " (block@1))"),
		"if a then break end":         block("(if@1 " + a + " (block@1 (break@1)))"),
		"if a then else end":          block("(if@1 " + a + " (block@1) (block@1))"),
		"if a then else break end":    block("(if@1 " + a + " (block@1) (block@1 (break@1)))"),
		"if a then elseif b then end": block("(if@1 " + a + " (block@1) " + b + " (block@1))"),
		"if a then elseif b then elseif c then break else break end": block("(if@1 " + a + " (block@1) " + b + " (block@1) " + c + " (block@1 (break@1)) (block@1 (break@1)))"),
		"if a then if b then end else end":                           block("(if@1 " + a + " (block@1 (if@1 " + b + " (block@1))) (block@1))"),
		"if a then else if b then end end":                           block("(if@1 " + a + " (block@1) (block@1 (if@1 " + b + " (block@1))))"),
		"for a = b, c do end":                                        block("(for@1 a " + b + " " + c + " (block@1))"),
		"for a = b, c, a do end":                                     block("(for@1 a " + b + " " + c + " " + a + " (block@1))"),
		"for a = 1, 2 do break end":                                  block("(for@1 a (int@1 1) (int@1 2) (block@1 (break@1)))"),
		"for a in b do end":                                          block("(each@1 1 a " + b + " (block@1))"),
		"for a in b, c do end":                                       block("(each@1 2 a " + b + " " + c + " (block@1))"),
		"for a, b in c do break end":                                 block("(each@1 1 a b " + c + " (block@1 (break@1)))"),
		"for a, b, c in a, b, c, a do end":                           block("(each@1 4 a b c " + a + " " + b + " " + c + " " + a + " (block@1))"),
		"local a":                                                    block("(local@1 a)"),
		"local a, b, c":                                              block("(local@1 a b c)"),
		"local a = b":                                                block("(local@1 a " + b + ")"),
		"local a, b = c, a, b":                                       block("(local@1 a b " + c + " " + a + " " + b + ")"),
		"local a local b = 1":                                        block("(local@1 a) (local@1 b (int@1 1))"),
		"local function a() end":                                     block("(local-func@1 a (func@1 0 (block@1)))"),
		"local function a(b) return b end":                           block("(local-func@1 a (func@1 0 b (block@1 (return@1 " + b + "))))"),
		"local a = function() end":                                   block("(local@1 a (func@1 0 (block@1)))"),
		"function a() end":                                           block("(assign@1 1 " + a + " (func@1 0 (block@1)))"),
		"function a(b, c) break end":                                 block("(assign@1 1 " + a + " (func@1 0 b c (block@1 (break@1))))"),
		"function a(b, ...) end":                                     block("(assign@1 1 " + a + " (func@1 1 b (block@1)))"),
		"function a(...) end":                                        block("(assign@1 1 " + a + " (func@1 1 (block@1)))"),
		"function a.b() end":                                         block("(assign@1 1 (index@1 " + a + ` (str@1 "b")) (func@1 0 (block@1)))`),
		"function a.b.c() end":                                       block("(assign@1 1 (index@1 (index@1 " + a + ` (str@1 "b")) (str@1 "c")) (func@1 0 (block@1)))`),
		"function a:b() end":                                         block("(assign@1 1 (index@1 " + a + ` (str@1 "b")) (func@1 0 self (block@1)))`),
		"function a:b(...) end":                                      block("(assign@1 1 (index@1 " + a + ` (str@1 "b")) (func@1 1 self (block@1)))`),
		"function a.b:c(a, self, ...) end":                           block("(assign@1 1 (index@1 (index@1 " + a + ` (str@1 "b")) (str@1 "c")) (func@1 1 self a self (block@1)))`),
		"function a() end function b() end":                          block("(assign@1 1 " + a + " (func@1 0 (block@1))) (assign@1 1 " + b + " (func@1 0 (block@1)))"),
		"local function a() end function b() end":                    block("(local-func@1 a (func@1 0 (block@1))) (assign@1 1 " + b + " (func@1 0 (block@1)))"),
	})
}

// P7.1: expressions that aren't operators.
func TestExpressions(t *testing.T) {
	const a, b = `(name@1 "a")`, `(name@1 "b")`
	holds(t, map[string]told{
		"return nil, true, false": returns("(nil@1) (true@1) (false@1)"),
		"return ...":              returns("(many@1)"),
		"return ..., ...":         returns("(many@1) (many@1)"),
		"return 0, 0x10":          returns("(int@1 0) (int@1 16)"),
		"return 9223372036854775807, 0xffffffffffffffff": returns("(int@1 9223372036854775807) (int@1 -1)"),
		"return - 1, -0":                              returns("(unary@1 20 (int@1 1)) (unary@1 20 (int@1 0))"),
		`return 'a', "b\n", [[c]], ''`:                returns("%s", `(str@1 "a") (str@1 "b\n") (str@1 "c") (str@1 "")`),
		`return 'end', '+', "not", '...', "nil"`:      returns("%s", `(str@1 "end") (str@1 "+") (str@1 "not") (str@1 "...") (str@1 "nil")`),
		"return a":                                    returns(a),
		"return (a)":                                  returns("(paren@1 " + a + ")"),
		"return ((a))":                                returns("(paren@1 (paren@1 " + a + "))"),
		"return (...)":                                returns("(paren@1 (many@1))"),
		"return (a)(b)":                               returns("(call@1 (paren@1 " + a + ") " + b + ")"),
		"return (a.b)":                                returns("(paren@1 (index@1 " + a + ` (str@1 "b")))`),
		"return a.b.c":                                returns("(index@1 (index@1 " + a + ` (str@1 "b")) (str@1 "c"))`),
		"return a[b.c][1]":                            returns("(index@1 (index@1 " + a + " (index@1 " + b + ` (str@1 "c"))) (int@1 1))`),
		"return a['b']":                               returns("(index@1 " + a + ` (str@1 "b"))`),
		"return a:b(...).c{}":                         returns(`(call@1 (index@1 (method@1 "b" ` + a + ` (many@1)) (str@1 "c")) (table@1))`),
		"return a[[b]]":                               returns("(call@1 " + a + ` (str@1 "b"))`),
		"return a[ [[b]] ]":                           returns("(index@1 " + a + ` (str@1 "b"))`),
		"return a.b'c'.d":                             returns("(index@1 (call@1 (index@1 " + a + ` (str@1 "b")) (str@1 "c")) (str@1 "d"))`),
		"return function() end":                       returns("(func@1 0 (block@1))"),
		"return function(a) end":                      returns("(func@1 0 a (block@1))"),
		"return function(a, b, a) end":                returns("(func@1 0 a b a (block@1))"),
		"return function(...) end":                    returns("(func@1 1 (block@1))"),
		"return function(a, ...) end":                 returns("(func@1 1 a (block@1))"),
		"return function(a, b, ...) return end":       returns("(func@1 1 a b (block@1 (return@1)))"),
		"return (function() end)()":                   returns("(call@1 (paren@1 (func@1 0 (block@1))))"),
		"return function() return function() end end": returns("(func@1 0 (block@1 (return@1 (func@1 0 (block@1)))))"),
		"return function() end + 1":                   returns("(binary@1 1 (func@1 0 (block@1)) (int@1 1))"),
		"return #{} - -a":                             returns("(binary@1 2 (unary@1 23 (table@1)) (unary@1 20 " + a + "))"),
		"return a ~ ~b":                               returns("(binary@1 8 " + a + " (unary@1 21 " + b + "))"),
		"return not not a":                            returns("(unary@1 22 (unary@1 22 " + a + "))"),
		"return not a == not b":                       returns("(binary@1 12 (unary@1 22 " + a + ") (unary@1 22 " + b + "))"),
		"return a..b..1 .. 2":                         returns("(binary@1 11 " + a + " (binary@1 11 " + b + " (binary@1 11 (int@1 1) (int@1 2))))"),
		"return 1-2-3-4":                              returns("(binary@1 2 (binary@1 2 (binary@1 2 (int@1 1) (int@1 2)) (int@1 3)) (int@1 4))"),
		"return 1 .. 2 + 3 .. 4":                      returns("(binary@1 11 (int@1 1) (binary@1 11 (binary@1 1 (int@1 2) (int@1 3)) (int@1 4)))"),
		"return 1 << 2 .. 3 << 4":                     returns("(binary@1 9 (binary@1 9 (int@1 1) (binary@1 11 (int@1 2) (int@1 3))) (int@1 4))"),
		"return 1 or 2 and 3 < 4 | 5 ~ 6 & 7 << 8 .. 9 + 10 * - 11": returns("(binary@1 19 (int@1 1) (binary@1 18 (int@1 2) (binary@1 14 (int@1 3) (binary@1 7 (int@1 4) (binary@1 8 (int@1 5) (binary@1 6 (int@1 6) (binary@1 9 (int@1 7) (binary@1 11 (int@1 8) (binary@1 1 (int@1 9) (binary@1 3 (int@1 10) (unary@1 20 (int@1 11))))))))))))"),
		"return - 11 * 10 + 9 .. 8 << 7 & 6 ~ 5 | 4 < 3 and 2 or 1": returns("(binary@1 19 (binary@1 18 (binary@1 14 (binary@1 7 (binary@1 8 (binary@1 6 (binary@1 9 (binary@1 11 (binary@1 1 (binary@1 3 (unary@1 20 (int@1 11)) (int@1 10)) (int@1 9)) (int@1 8)) (int@1 7)) (int@1 6)) (int@1 5)) (int@1 4)) (int@1 3)) (int@1 2)) (int@1 1))"),
	})
}

// P7.1: tables: what parts and ends them, and their items.
func TestTables(t *testing.T) {
	const a, b, pos1, pos2 = `(name@1 "a")`, `(name@1 "b")`, "(pos@1 (int@1 1))", "(pos@1 (int@1 2))"
	holds(t, map[string]told{
		"return {}":                 returns("(table@1)"),
		"return {1}":                returns("(table@1 " + pos1 + ")"),
		"return {1,}":               returns("(table@1 " + pos1 + ")"),
		"return {1;}":               returns("(table@1 " + pos1 + ")"),
		"return {1,2}":              returns("(table@1 " + pos1 + " " + pos2 + ")"),
		"return {1;2}":              returns("(table@1 " + pos1 + " " + pos2 + ")"),
		"return {1,2;1;2,1,}":       returns("(table@1 " + pos1 + " " + pos2 + " " + pos1 + " " + pos2 + " " + pos1 + ")"),
		"return {a}":                returns("(table@1 (pos@1 " + a + "))"),
		"return {a=b}":              returns(`(table@1 (key@1 (str@1 "a") ` + b + "))"),
		"return {a=b;}":             returns(`(table@1 (key@1 (str@1 "a") ` + b + "))"),
		"return {a=b, b=a}":         returns(`(table@1 (key@1 (str@1 "a") ` + b + `) (key@1 (str@1 "b") ` + a + "))"),
		"return {a==b}":             returns("(table@1 (pos@1 (binary@1 12 " + a + " " + b + ")))"),
		"return {a=a==b}":           returns(`(table@1 (key@1 (str@1 "a") (binary@1 12 ` + a + " " + b + ")))"),
		"return {a'=', b}":          returns("(table@1 (pos@1 (call@1 " + a + ` (str@1 "="))) (pos@1 ` + b + "))"),
		"return {a.b, a(), a+b}":    returns("(table@1 (pos@1 (index@1 " + a + ` (str@1 "b"))) (pos@1 (call@1 ` + a + ")) (pos@1 (binary@1 1 " + a + " " + b + ")))"),
		"return {[a]=b}":            returns("(table@1 (key@1 " + a + " " + b + "))"),
		"return {[a]=b,}":           returns("(table@1 (key@1 " + a + " " + b + "))"),
		"return {['a']=1, ['a']=2}": returns(`(table@1 (key@1 (str@1 "a") (int@1 1)) (key@1 (str@1 "a") (int@1 2)))`),
		"return {[a==b]=b=='='}":    returns("(table@1 (key@1 (binary@1 12 " + a + " " + b + ") (binary@1 12 " + b + ` (str@1 "="))))`),
		"return {[[a]]}":            returns(`(table@1 (pos@1 (str@1 "a")))`),
		"return {[ [[a]] ]=1}":      returns(`(table@1 (key@1 (str@1 "a") (int@1 1)))`),
		"return {(a)}":              returns("(table@1 (pos@1 (paren@1 " + a + ")))"),
		"return {...}":              returns("(table@1 (pos@1 (many@1)))"),
		"return {1, ...}":           returns("(table@1 " + pos1 + " (pos@1 (many@1)))"),
		"return {{}, {{}}}":         returns("(table@1 (pos@1 (table@1)) (pos@1 (table@1 (pos@1 (table@1)))))"),
		"return {a={b={}}}":         returns(`(table@1 (key@1 (str@1 "a") (table@1 (key@1 (str@1 "b") (table@1)))))`),
		"return {function() end}":   returns("(table@1 (pos@1 (func@1 0 (block@1))))"),
		"return {-1, not a}":        returns("(table@1 (pos@1 (unary@1 20 (int@1 1))) (pos@1 (unary@1 22 " + a + ")))"),
		"return {1, a=1; [1]=2, 2}": returns("(table@1 " + pos1 + ` (key@1 (str@1 "a") (int@1 1)) (key@1 (int@1 1) (int@1 2)) ` + pos2 + ")"),
	})
}

// P7.1: the line of each Kind of node, each token on a line of its own.
func TestLines(t *testing.T) {
	for src, want := range map[string]string{
		"return nil , true , false":              "(block@1 (return@1 (nil@2) (true@4) (false@6)))",
		"return ... ; ":                          "(block@1 (return@1 (many@2)))",
		"; ; return 1":                           "(block@1 (return@3 (int@4 1)))",
		"return 'a'":                             `(block@1 (return@1 (str@2 "a")))`,
		"a = b":                                  `(block@1 (assign@1 1 (name@1 "a") (name@3 "b")))`,
		"; a , b = c":                            `(block@1 (assign@2 2 (name@2 "a") (name@4 "b") (name@6 "c")))`,
		"a . b . c = d":                          `(block@1 (assign@1 1 (index@4 (index@2 (name@1 "a") (str@3 "b")) (str@5 "c")) (name@7 "d")))`,
		"a [ b ] [ c ] = d":                      `(block@1 (assign@1 1 (index@5 (index@2 (name@1 "a") (name@3 "b")) (name@6 "c")) (name@9 "d")))`,
		"( a ) . b = c":                          `(block@1 (assign@1 1 (index@4 (paren@1 (name@2 "a")) (str@5 "b")) (name@7 "c")))`,
		"a ( )":                                  `(block@1 (do-call@1 (call@2 (name@1 "a"))))`,
		"a 'b'":                                  `(block@1 (do-call@1 (call@2 (name@1 "a") (str@2 "b"))))`,
		"a { }":                                  `(block@1 (do-call@1 (call@2 (name@1 "a") (table@2))))`,
		"a ( b , c ) { } 'd'":                    `(block@1 (do-call@1 (call@9 (call@7 (call@2 (name@1 "a") (name@3 "b") (name@5 "c")) (table@7)) (str@9 "d"))))`,
		"a : b ( c )":                            `(block@1 (do-call@1 (method@2 "b" (name@1 "a") (name@5 "c"))))`,
		"a : b 'c' : d { }":                      `(block@1 (do-call@1 (method@5 "d" (method@2 "b" (name@1 "a") (str@4 "c")) (table@7))))`,
		"a . b ( )":                              `(block@1 (do-call@1 (call@4 (index@2 (name@1 "a") (str@3 "b")))))`,
		"( a ) ( )":                              `(block@1 (do-call@1 (call@4 (paren@1 (name@2 "a")))))`,
		"return 1 + 2":                           "(block@1 (return@1 (binary@3 1 (int@2 1) (int@4 2))))",
		"return 1 + 2 - 3":                       "(block@1 (return@1 (binary@5 2 (binary@3 1 (int@2 1) (int@4 2)) (int@6 3))))",
		"return 1 .. 2 .. 3":                     "(block@1 (return@1 (binary@3 11 (int@2 1) (binary@5 11 (int@4 2) (int@6 3)))))",
		"return 1 or 2 and 3":                    "(block@1 (return@1 (binary@3 19 (int@2 1) (binary@5 18 (int@4 2) (int@6 3)))))",
		"return - 1":                             "(block@1 (return@1 (unary@2 20 (int@3 1))))",
		"return not # a":                         `(block@1 (return@1 (unary@2 22 (unary@3 23 (name@4 "a")))))`,
		"return ( ( 1 ) )":                       "(block@1 (return@1 (paren@2 (paren@3 (int@4 1)))))",
		"return { }":                             "(block@1 (return@1 (table@2)))",
		"return { 1 , a + b ; ( c ) }":           `(block@1 (return@1 (table@2 (pos@3 (int@3 1)) (pos@5 (binary@6 1 (name@5 "a") (name@7 "b"))) (pos@9 (paren@9 (name@10 "c"))))))`,
		"return { a = b , c = d , }":             `(block@1 (return@1 (table@2 (key@3 (str@3 "a") (name@5 "b")) (key@7 (str@7 "c") (name@9 "d")))))`,
		"return { [ a ] = b }":                   `(block@1 (return@1 (table@2 (key@3 (name@4 "a") (name@7 "b")))))`,
		"return function ( a , ... ) end":        "(block@1 (return@1 (func@2 1 a (block@8))))",
		"return function ( ) ; end":              "(block@1 (return@1 (func@2 0 (block@5))))",
		"return function ( ) break end":          "(block@1 (return@1 (func@2 0 (block@5 (break@5)))))",
		"function a ( ) end":                     `(block@1 (assign@1 1 (name@2 "a") (func@1 0 (block@5))))`,
		"; function a . b ( ) end":               `(block@1 (assign@2 1 (index@4 (name@3 "a") (str@5 "b")) (func@2 0 (block@8))))`,
		"function a . b . c : d ( ) end":         `(block@1 (assign@1 1 (index@7 (index@5 (index@3 (name@2 "a") (str@4 "b")) (str@6 "c")) (str@8 "d")) (func@1 0 self (block@11))))`,
		"function a : b ( ) end":                 `(block@1 (assign@1 1 (index@3 (name@2 "a") (str@4 "b")) (func@1 0 self (block@7))))`,
		"local function a ( ) end":               "(block@1 (local-func@1 a (func@2 0 (block@6))))",
		"; local a , b = c":                      `(block@1 (local@2 a b (name@7 "c")))`,
		"do end do ; end do break end":           "(block@1 (do@1 (block@2)) (do@3 (block@4)) (do@6 (block@7 (break@7))))",
		"while a do end":                         `(block@1 (while@1 (name@2 "a") (block@4)))`,
		"repeat until a":                         `(block@1 (repeat@1 (block@2) (name@3 "a")))`,
		"repeat ; break until a":                 `(block@1 (repeat@1 (block@2 (break@3)) (name@5 "a")))`,
		"if a then end":                          `(block@1 (if@1 (name@2 "a") (block@4)))`,
		"if a then elseif b then break else end": `(block@1 (if@1 (name@2 "a") (block@4) (name@5 "b") (block@7 (break@7)) (block@9)))`,
		"if a then else ; end":                   `(block@1 (if@1 (name@2 "a") (block@4) (block@5)))`,
		"for a = b , c , d do end":               `(block@1 (for@1 a (name@4 "b") (name@6 "c") (name@8 "d") (block@10)))`,
		"for a , b in c , d do break end":        `(block@1 (each@1 2 a b (name@6 "c") (name@8 "d") (block@10 (break@10))))`,
		"break goto a :: a ::":                   `(block@1 (break@1) (goto@2 "a") (label@4 "a"))`,
		"do return end":                          "(block@1 (do@1 (block@2 (return@2))))",
		"a = 1 ( b ) ( )":                        `(block@1 (assign@1 1 (name@1 "a") (int@3 1)) (do-call@4 (call@7 (paren@4 (name@5 "b")))))`,
		"a . b ( ) . c : d 'e' [ 1 ] = 2":        `(block@1 (assign@1 1 (index@11 (method@8 "d" (index@6 (call@4 (index@2 (name@1 "a") (str@3 "b"))) (str@7 "c")) (str@10 "e")) (int@12 1)) (int@15 2)))`,
		"return ( a ) [ 1 ] , - b . c":           `(block@1 (return@1 (index@5 (paren@2 (name@3 "a")) (int@6 1)) (unary@9 20 (index@11 (name@10 "b") (str@12 "c")))))`,
		"return a { b ( ) } . c":                 `(block@1 (return@1 (index@8 (call@3 (name@2 "a") (table@3 (pos@4 (call@5 (name@4 "b"))))) (str@9 "c"))))`,
	} {
		holds(t, map[string]told{lines(strings.Fields(src)...): one(want)})
	}
	holds(t, map[string]told{
		// Nothing but blanks ahead: the block's first token is where it stands.
		"\n\nbreak":               one("(block@3 (break@3))"),
		"--\n--[[\n]]break":       one("(block@3 (break@3))"),
		"do\n\n\nend":             one("(block@1 (do@1 (block@4)))"),
		"do --[[\n]] ;\n end":     one("(block@1 (do@1 (block@2)))"),
		"return 'a\\\nb', c":      one(`(block@1 (return@1 (str@1 "a\nb") (name@2 "c")))`),
		"return [[\n\n]], c":      one(`(block@1 (return@1 (str@1 "\n") (name@3 "c")))`),
		"a [[\n]] [[\n]]":         one(`(block@1 (do-call@1 (call@2 (call@1 (name@1 "a") (str@1 "")) (str@2 ""))))`),
		"a\n.b\n.c = 1":           one(`(block@1 (assign@1 1 (index@3 (index@2 (name@1 "a") (str@2 "b")) (str@3 "c")) (int@3 1)))`),
		"a.\nb = 1":               one(`(block@1 (assign@1 1 (index@1 (name@1 "a") (str@2 "b")) (int@2 1)))`),
		"a:\nb\n()":               one(`(block@1 (do-call@1 (method@1 "b" (name@1 "a"))))`),
		"local\nfunction a() end": one("(block@1 (local-func@1 a (func@2 0 (block@2))))"),
	})
}

// P7.1: where a source can't go on; each token on a line of its own, the wrong one behind a blank line that counts, too.
func TestWrongTokens(t *testing.T) {
	for _, src := range []string{
		// What is behind the ! is the first token with which no source goes on.
		"!end", "!else", "!elseif", "!until", "!then", "!in", "!and", "!or", "!not", "!nil", "!true", "!1", "!'a'", "!...",
		"!{ }", "![", "!]", "!)", "!}", "!=", "!,", "!.", "!:", "!+", "!-", "!#", "!~", "!==", "!..",
		"a !", "a !b", "a !1", "a !+", "a !;", "a !==", "a !)", "a !end", "a !::", "a , !", "a , !1", "a , !=", "a , ! , b",
		"a , b !", "a , b !;", "a , b ! c", "a = !", "a = !=", "a = !;", "a = !end", "a = !, b", "a = 1 , !", "a = 1 , !;",
		"a = 1 !2", "a = 1 !=", "a = 1 !'b'", "a = 1 !{ }", "a = b !=", "a = b , c !=", "a = ( b !", "a = ( ! )", "a = ( b !, c )",
		"a . !", "a . !1", "a . !end", "a . ! [", "a . b !", "a . b !;", "a . b !+", "a [ ! ]", "a [ b !", "a [ b !, c ]", "a [ b ] !",
		"a : !", "a : !1", "a : !'b'", "a : b !", "a : b !=", "a : b !.", "a : b ![", "a : b !:", "a : b !;", "a : b ( ) !=", "a : b ( ) !, c",
		"a ( !", "a ( !, b )", "a ( b !", "a ( b , ! )", "a ( b !; )", "a ( b !c )", "a ( ) !=", "a ( ) !, b", "a ( ) !+", "a ( ) !)",
		"a , b ( ) !=", "a , b ( ) !,", "a , b ( ) !", "a , b ( ) !;", "a , b : c ( ) !=", "a , ( b ) !=", "a , ( b ) !,", "a , !'b'", "a , !{ }",
		"( !)", "( a !", "( a ) !", "( a ) !=", "( a ) !, b", "( a ) !;", "( a ) !+", "( a ) !b", "( a ) !end", "( a !, b )",
		"return !return", "return !end", "return !)", "return !,", "return !=", "return !break", "return 1 !2", "return 1 !b", "return 1 , !", "return 1 , !;", "return 1 ; !;", "return ; !;", "return ; !1", "return ; !break",
		"return 1 ; !return", "return 1 !do", "return !goto", "do return ; ! ; end", "do return 1 !", "do return !else", "repeat return !end",
		"do !", "do !else", "do !until", "do ; !", "do end !end", "do do end !", "do break !until 1",
		"while !", "while !do", "while a !", "while a !then", "while a !b", "while a do !", "while a do !until", "while a do !else",
		"repeat !", "repeat !end", "repeat until !", "repeat until !;", "repeat until 1 !2", "repeat until !end",
		"if !", "if !then", "if a !", "if a !do", "if a !else", "if a !elseif", "if a !end", "if a then !", "if a then !until", "if a then elseif !", "if a then elseif !then", "if a then elseif b !", "if a then elseif b !else",
		"if a then elseif b then !", "if a then else !", "if a then else !else", "if a then else !elseif", "if a then else !until", "if a then else if b then end !", "if a then return !until",
		"for !", "for !1", "for !=", "for !in", "for !( a )", "for a !", "for a !do", "for a !. b", "for a !;", "for a = !", "for a = !do", "for a = 1 !", "for a = 1 !do", "for a = 1 !in", "for a = 1 , !", "for a = 1 , !do",
		"for a = 1 , 2 !", "for a = 1 , 2 !then", "for a = 1 , 2 , !", "for a = 1 , 2 , !do", "for a = 1 , 2 , 3 !", "for a = 1 , 2 , 3 !, 4 do end", "for a = 1 , 2 do !", "for a = 1 , 2 do !until",
		"for a , !", "for a , !=", "for a , !1", "for a , !...", "for a , b !", "for a , b !=", "for a , b !do", "for a in !", "for a in !do", "for a in b !", "for a in b , !", "for a in b , !do", "for a in b !then", "for a in b !=", "for a in b do !", "for a in b do !else",
		"function !", "function !( )", "function !1", "function !end", "function !'a'", "function a !", "function a !=", "function a !end", "function a ![ b ]", "function a !'b'", "function a !{ }", "function a !, b", "function a . !", "function a . !1", "function a . !(", "function a . b !", "function a . b !=",
		"function a : !", "function a : !(", "function a : b !", "function a : b !. c", "function a : b !: c", "function a ( !", "function a ( !, b )", "function a ( !1 )", "function a ( !nil )", "function a ( b !", "function a ( b !c )", "function a ( b !... )", "function a ( b , !", "function a ( b , ! )",
		"function a ( b , !1 )", "function a ( b , c , ! )", "function a ( b , ... !, c )", "function a ( ... !, b )", "function a ( ... !b )", "function a ( ... !... )", "function a ( b , ... !", "function a ( !( b ) )", "function a ( ) !", "function a ( ) !until", "function a ( ) !else", "function a ( ) end !end", "function a ( b !; c )", "function a ( b !=",
		"local !", "local !1", "local !=", "local !end", "local !( a )", "local !'a'", "local a !.", "local a ![", "local a !:", "local a !<", "local a , !", "local a , !=", "local a , !function", "local a , b !.", "local a = !", "local a = !;", "local a = 1 , !", "local a = 1 !=", "local a = !local",
		"local function !", "local function !( )", "local function !1", "local function a !", "local function a !. b", "local function a !: b", "local function a !=", "local function a ( !", "local function a ( ) !",
		"goto !", "goto !1", "goto !'a'", "goto !end", "goto !;", "goto a !. b", "goto a !,", "goto a !=", "break !1", "break !=", "break !.", "break !,", ":: !", ":: !1", ":: !::", ":: !end", ":: a !", ":: a !:", ":: a !;", ":: a :: :: !", "! : a",
		"a = { !", "a = { !,", "a = { !; }", "a = { !)", "a = { 1 !", "a = { 1 !2 }", "a = { 1 !)", "a = { 1 , !, }", "a = { 1 ; !; }", "a = { 1 , !; 2 }", "a = { 1 , !", "a = { b = !", "a = { b = !}", "a = { b = !, }", "a = { b = 1 !=", "a = { b = 1 !c }",
		"a = { b . c != 1 }", "a = { 1 != 2 }", "a = { 'b' != 2 }", "a = { nil != 2 }", "a = { [ !", "a = { [ ! ]", "a = { [ 1 !", "a = { [ 1 ] !", "a = { [ 1 ] !}", "a = { [ 1 ] !== 2 }", "a = { [ 1 ] !2 }", "a = { [ 1 ] = !", "a = { [ 1 ] = !}", "a = { [ 1 !, 2 ] = 1 }", "a = { ( b ) != 1 }", "a = { b ( ) != 1 }", "a = { !return }", "a = { b : c != 1 }", "a = { b [ 1 ] != 1 }",
		"a = not !", "a = - !", "a = # !", "a = ~ !", "a = not !and", "a = - !* b", "a = 1 + !", "a = 1 + !+ 2", "a = 1 + !)", "a = 1 .. !", "a = 1 .. !.. 2", "a = 1 and !", "a = 1 and !or 2", "a = 1 or !", "a = 1 !not 2", "a = 1 !#", "a = 1 < !", "a = 1 < != 2", "a = 1 + !end", "a = 1 + b c !", "a = 1 ~ !",
		"a = 'b' !.", "a = 'b' !:", "a = 'b' ![", "a = 'b' !'c'", "a = { } !.", "a = { } !'b'", "a = { } !{ }", "a = 1 !.", "a = nil !.", "a = ... !.", "a = ... !...", "a = function ( ) end !.", "a = function ( ) end !'b'", "a = function ( ) end !:", "a = function ( ) end ![", "a = function !b ( ) end", "a = function !", "a = function !end", "a = function ( ) !",
		"!'a' ( )", "!{ } . b = 1", "!1 = 1", "!nil = 1", "!... = 1",
	} {
		before, after, _ := strings.Cut(src, "!")
		l := strings.Fields(before)
		want := syntax(len(l) + 1)
		l = append(l, strings.Fields(after)...)
		holds(t, map[string]told{lines(l...): want})
		if after != "" {
			// It doesn't matter what stands behind.
			holds(t, map[string]told{lines(append(l, "end", "=")...): want})
		}
	}
}
