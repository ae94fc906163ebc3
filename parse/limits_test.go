package parse_test

import (
	"slices"
	"strings"
	"testing"

	"selkie/api"
	"selkie/parse"
	"selkie/tree"
)

func full(line int) told { return told{line: line, err: api.ErrFull} }

func wrong(line int) told { return told{line: line, err: api.ErrLex} }

func deep() told { return told{line: 1, err: api.ErrDeep} }

// refused holds long sources against what is said of them: what is told is short.
func refused(t *testing.T, src string, want told) {
	t.Helper()
	holds(t, map[string]told{src: want})
}

// measured: has the source's tree so many nodes, and is it so deep?
func measured(t *testing.T, src string, nodes, depth int) {
	t.Helper()
	x := parsed(t, src)
	if !tree.Right(x) || len(x.Nodes) != nodes || tree.Deep(x) != depth {
		t.Fatalf("%.60q: %d nodes, %d deep, want %d, %d", src, len(x.Nodes), tree.Deep(x), nodes, depth)
	}
}

// P7.1: layer 5's error comes ahead of all, wherever it stands.
func TestLexErrors(t *testing.T) {
	holds(t, map[string]told{
		"x = 'a":                     wrong(1),
		"!":                          wrong(1),
		"x = 1.5":                    wrong(1),
		"\nx = 1\n!":                 wrong(3),
		"x = = 1\n!":                 wrong(2),
		"end\n\n'":                   wrong(3),
		"x\n--[[":                    wrong(2),
		"= '\\q'":                    wrong(1),
		"x = [[\n\n":                 wrong(1),
		"x = [[\n\n]] end\n[==[":     wrong(4),
		"return 9223372036854775808": wrong(1),
	})
	refused(t, strings.Repeat("(", 300)+"\n!", wrong(2))
	refused(t, strings.Repeat("f''", 5000)+"\n!", wrong(2))
	// As many tokens as may be, the Eof among them, and one more.
	most := strings.Repeat(";", api.MaxTokens-1)
	holds(t, map[string]told{most: one("(block@1)")})
	refused(t, most+"\n;", full(2))
	refused(t, strings.Repeat(";", api.MaxTokens)+"\n\n", full(3))
	refused(t, most+"\n!", wrong(2))
	refused(t, most+";\n!", full(2))
	refused(t, "="+most, full(1))
	refused(t, "\n"+strings.Repeat("= ", api.MaxTokens), full(2))
	// As many bytes as may be, and one more.
	long := strings.Repeat("\n", api.MaxSource-5)
	holds(t, map[string]told{long + "break": one("(block@65532 (break@65532))")})
	refused(t, long+"break ", full(1))
	refused(t, long+"!break", full(1))
	name := strings.Repeat("a", api.MaxSource-2)
	holds(t, map[string]told{name + "()": block("(do-call@1 (call@1 (name@1 \"" + name + "\")))")})
	refused(t, name+"=1", one("(block@1 (assign@1 1 (name@1 \""+name+"\") (int@1 1)))"))
}

// P7.1: as many nodes as may be, and one more; blanks ahead, so that line 1 isn't the block's.
func TestNodes(t *testing.T) {
	calls := func(n int) string { return strings.Repeat("f''", n) }
	measured(t, "", 1, 1)
	measured(t, "\n"+calls(4095)+"x=1", api.MaxNodes, 4)
	refused(t, "\n"+calls(4096), full(1))
	refused(t, "\n"+calls(4095)+"x=-1", full(1))
	refused(t, "\n\n"+calls(5000), full(1))
	// Items, blocks.
	measured(t, "return{"+strings.Repeat("1,", 8189)+"-1}", api.MaxNodes, 6)
	refused(t, "\nreturn{"+strings.Repeat("1,", 8181)+strings.Repeat("x'',", 4)+"x''}", full(1))
	measured(t, strings.Repeat("do end ", 8191)+"break", api.MaxNodes, 3)
	measured(t, strings.Repeat("do end ", 8190)+"x()", api.MaxNodes, 4)
	refused(t, "\n"+strings.Repeat("do end ", 8190)+"x''", full(1))
	// A source that can't go on is so first, however many nodes there are.
	refused(t, "\n"+calls(5000)+"\n=", syntax(3))
	refused(t, "\n"+calls(5000)+"x", syntax(2))
	// Ahead of being too deep.
	refused(t, "\n"+calls(5000)+"return "+strings.Repeat("(", 200)+"x"+strings.Repeat(")", 200), full(1))
	refused(t, "f"+strings.Repeat("''", 8300), full(1))
}

// P7.1: as deep as may be, and deeper, by each way to nest.
func TestDeep(t *testing.T) {
	around := func(n int, open, inner, shut string) string {
		return strings.Repeat(open, n) + inner + strings.Repeat(shut, n)
	}
	// How deep the source is with nothing nested, and by how much each nesting makes it deeper.
	for name, x := range map[string]struct {
		make       func(n int) string
		base, each int
	}{
		"paren":    {func(n int) string { return "return " + around(n, "(", "x", ")") }, 3, 1},
		"minus":    {func(n int) string { return "return " + strings.Repeat("- ", n) + "x" }, 3, 1},
		"not":      {func(n int) string { return "return " + strings.Repeat("not ", n) + "x" }, 3, 1},
		"plus":     {func(n int) string { return "return x" + strings.Repeat("+x", n) }, 3, 1},
		"concat":   {func(n int) string { return "return x" + strings.Repeat("..x", n) }, 3, 1},
		"index":    {func(n int) string { return "return x" + strings.Repeat(".x", n) }, 3, 1},
		"brackets": {func(n int) string { return "return " + around(n, "x[", "x", "]") }, 3, 1},
		"call":     {func(n int) string { return "return x" + strings.Repeat("()", n) }, 3, 1},
		"texts":    {func(n int) string { return "return x" + strings.Repeat("''", n) }, 3, 1},
		"method":   {func(n int) string { return "return x" + strings.Repeat(":x()", n) }, 3, 1},
		"argument": {func(n int) string { return "return " + around(n, "x(", "x", ")") }, 3, 1},
		"table":    {func(n int) string { return "return " + around(n, "{", "x", "}") }, 3, 2},
		"field":    {func(n int) string { return "return " + around(n, "{x=", "x", "}") }, 3, 2},
		"key":      {func(n int) string { return "return " + around(n, "{[", "x", "]=1}") }, 3, 2},
		"function": {func(n int) string { return "return " + around(n, "function() return ", "x", " end") }, 3, 3},
		"do":       {func(n int) string { return around(n, "do ", "break", " end") }, 2, 2},
		"while":    {func(n int) string { return around(n, "while 1 do ", "break", " end") }, 2, 2},
		"repeat":   {func(n int) string { return around(n, "repeat ", "break", " until 1") }, 2, 2},
		"if":       {func(n int) string { return around(n, "if 1 then ", "break", " end") }, 2, 2},
		"else":     {func(n int) string { return around(n, "if 1 then else ", "break", " end") }, 2, 2},
		"for":      {func(n int) string { return around(n, "for i=1,2 do ", "break", " end") }, 2, 2},
		"each":     {func(n int) string { return around(n, "for i in x do ", "break", " end") }, 2, 2},
		"local":    {func(n int) string { return around(n, "local function f() ", "break", " end") }, 2, 3},
		"named":    {func(n int) string { return around(n, "function f() ", "break", " end") }, 2, 3},
	} {
		most := (api.MaxDeep - x.base) / x.each
		for _, n := range []int{0, 1, most - 1, most} {
			src := "\n" + x.make(n)
			is := parsed(t, src)
			if want := x.base + n*x.each; tree.Deep(is) != want {
				t.Errorf("%s: %d deep at %d, want %d", name, tree.Deep(is), n, want)
			}
		}
		refused(t, "\n"+x.make(most+1), deep())
		refused(t, "\n"+x.make(2*most), deep())
		refused(t, "\n"+x.make(1000), deep())
	}
	measured(t, "return "+around(97, "(", "x", ")"), 100, api.MaxDeep)
	measured(t, "return "+"-"+around(96, "(", "x", ")"), 100, api.MaxDeep)
	measured(t, around(49, "do ", "break", " end"), 100, api.MaxDeep)
	refused(t, around(49, "do ", "x()", " end"), deep())
	// Of several branches the deepest counts.
	refused(t, "x=1 return 1,"+around(98, "(", "x", ")")+",1", deep())
	measured(t, "x=1 return 1,"+around(97, "(", "x", ")")+",1", 105, api.MaxDeep)
}

// P7.1: a source that can't go on is so first, however deep it is; and however deep it is, Parse ends.
func TestFarTooDeep(t *testing.T) {
	const n = api.MaxTokens/2 - 10
	for _, open := range []string{"(", "{", "- ", "not ", "x[", "x(", "x{", "{[", "#", "~ "} {
		times := n
		if len(strings.TrimSpace(open)) == 2 {
			times = n * 9 / 10
		}
		refused(t, "return\n"+strings.Repeat(open, times), syntax(2))
		refused(t, "\nreturn "+strings.Repeat(open, times)+"\n;", syntax(3))
	}
	for _, open := range []string{"do ", "repeat ", "if 1 then ", "while 1 do ", "x = function() "} {
		times := api.MaxTokens / 6
		refused(t, strings.Repeat(open, times)+"\n", syntax(2))
		refused(t, strings.Repeat(open, times)+"\n)", syntax(2))
	}
	refused(t, "return "+strings.Repeat("(", 8000)+"x"+strings.Repeat(")", 7999)+"\n\n", syntax(3))
	refused(t, "\nreturn "+strings.Repeat("(", 8000)+"x"+strings.Repeat(")", 8000), deep())
	refused(t, "\nreturn "+strings.Repeat("(", 8000)+"x"+strings.Repeat(")", 8000)+"\n)", syntax(3))
	refused(t, "\nreturn "+strings.Repeat("- ", 16000)+"x", deep())
	refused(t, "\nreturn x"+strings.Repeat("..x", 8000), deep())
	refused(t, "\nreturn x"+strings.Repeat("+x", 8000), deep())
	refused(t, "\nreturn "+strings.Repeat("{", 8000)+strings.Repeat("}", 8000), deep())
	refused(t, "\n"+strings.Repeat("do ", 8000)+strings.Repeat("end ", 8000), deep())
}

// Rule 4: an answer is new memory, and no two of its lists share any, their spare room neither.
func TestListsShareNothing(t *testing.T) {
	const src = "local a, b, c = 1, 2, 3 function x.y:z(a, b, ...) return a, b, c end a, b.c, d[1] = f(1, 2, 3), {1, 2, 3, 4, 5}, 6 " +
		"if a then b() elseif c then d() elseif e then f() else g() end for a, b, c in d, e, f do break break break end " +
		"for i = 1, 2, 3 do f(1, 2):m(3, 4, 5) end local function f(a, b, c, d, e) end return 1, 2, 3, 4, 5"
	want := got(t, src)
	x, other := parsed(t, src), parsed(t, src)
	for i := range x.Nodes {
		n := &x.Nodes[i]
		kids, names := slices.Clone(n.Kids), slices.Clone(n.Names)
		scribble(n.Kids[:cap(n.Kids)], -1)
		scribble(n.Names[:cap(n.Names)], "!")
		copy(n.Kids, kids)
		copy(n.Names, names)
	}
	scribble(x.Nodes[len(x.Nodes):cap(x.Nodes)], api.Node{Kind: -1})
	if is := (told{text: tree.Print(x)}); is != want {
		t.Errorf("lists share memory: %s", is.show())
	}
	for i := range x.Nodes {
		scribble(x.Nodes[i].Kids, -1)
		scribble(x.Nodes[i].Names, "!")
	}
	if is := (told{text: tree.Print(other)}); is != want || got(t, src) != want {
		t.Errorf("answers share memory: %s", is.show())
	}
}

func scribble[T any](l []T, with T) {
	for i := range l {
		l[i] = with
	}
}

// P3: any bytes are answered, and the same each time.
func TestAnyBytes(t *testing.T) {
	for c := range 256 {
		for _, src := range []string{string([]byte{byte(c)}), "x" + string([]byte{byte(c)}), "x = 1" + string([]byte{byte(c)}) + "2", "return " + string([]byte{byte(c)})} {
			if is := got(t, src); is != got(t, src) || is.err != api.OK && is.err != api.ErrLex && is.err != api.ErrSyntax {
				t.Errorf("%q: %s", src, is.show())
			}
		}
	}
}

// Errors are new each time: one who writes into his changes nobody else's.
func TestErrorsAreNew(t *testing.T) {
	for _, src := range []string{"=", "!", "return " + strings.Repeat("(", 200) + "x" + strings.Repeat(")", 200)} {
		want := got(t, src)
		_, err := parse.Parse(src)
		if f, ok := err.(*api.Fault); ok {
			f.Line, f.Err = 77, api.ErrArg
		}
		if is := got(t, src); is != want {
			t.Errorf("%.20q: %s", src, is.show())
		}
	}
}
