package need_test

import (
	"fmt"
	"slices"
	"strings"
	"testing"

	"selkie/api"
	"selkie/need"
	"selkie/parse"
	"selkie/tree"
)

// row is n names with commas between.
func row(n int) string { return strings.TrimSuffix(strings.Repeat("a, ", n), ", ") }

// fills is bodies of a function that need n places, 206 or more.
func fills(n int) map[string]string {
	return map[string]string{
		"locals and a value":     "local " + row(n-120) + " return " + row(120),
		"as many locals":         "local " + row(200) + " f(" + row(n-201) + ")",
		"locals with values":     "local " + row(100) + " = " + row(n-100),
		"locals in blocks":       strings.Repeat("do local a end ", n-120) + "return " + row(120),
		"values":                 "return " + row(n),
		"an assignment":          "x, y = " + row(n),
		"indexes":                "t.x, t.y = " + row(n-4),
		"arguments":              "f(" + row(n-1) + ")",
		"arguments of a method":  "o:m(" + row(n-2) + ")",
		"nested calls":           "return f(" + row(n-27) + strings.Repeat(", f(a", 13) + strings.Repeat(")", 13) + ")",
		"a call within a test":   "while f(" + row(n-1) + ") do end",
		"a call behind a repeat": "repeat until f(" + row(n-1) + ")",
		"a branch":               "if a then elseif a then else f(" + row(n-1) + ") end",
		"a for":                  "for i = 1, f(" + row(n-3) + ") do end",
		"a for's block":          "for i = 1, 2 do f(" + row(n-5) + ") end",
		"an each":                "for i in a, b, f(" + row(n-4) + ") do end",
		"an each's block":        "for i, j in a do f(" + row(n-6) + ") end",
		"each in each":           strings.Repeat("for i in a do ", 40) + "return " + row(n-160) + strings.Repeat(" end", 40),
		"a call in a table":      "return {f(" + row(n-2) + ")}",
		"a key's value":          "return {[a] = f(" + row(n-3) + ")}",
		"tables in tables":       "return " + strings.Repeat("{a = ", 40) + "f(" + row(n-81) + ")" + strings.Repeat("}", 40),
		"operands":               "return a" + strings.Repeat(" + (a", 40) + " + f(" + row(n-42) + ")" + strings.Repeat(")", 40),
		"before much else":       "f(" + row(n-2) + ") local a f(a) do end",
		"behind much else":       "f() x = {1, 2, 3} t.x = y f(" + row(n-1) + ")",
	}
}

// P9.1: as many places as there may be, and one more: in the root, in a function within, in one of several.
func TestMaxRegs(t *testing.T) {
	for _, n := range []int{249, 250, 251, 252, 300} {
		for what, body := range fills(n) {
			ends := func(src string, line int, want ...int) {
				t.Helper()
				text := strings.Trim(fmt.Sprint(want), "[]")
				if n > 250 {
					text = fmt.Sprint("regs at line ", line)
				}
				if is := got(t, src); is != text {
					t.Errorf("%s, %d: %s, not %s", what, n, is, text)
				}
			}
			ends(body, 1, n)
			ends("\n\nreturn function()\n"+body+" end", 3, 1, n)
			ends("\nlocal function f()\n"+body+" end", 2, 2, n)
			ends("\nf(1,\nfunction()\n"+body+" end)", 3, 3, n)
			ends("f(function() end,\nfunction()\n"+body+" end, 1,\nfunction() return 1 end)", 2, 5, 0, n, 1)
			ends("return function()\nreturn 1, function()\n"+body+" end end", 2, 1, 2, n)
			// What is around has no part in it: two functions need it, each by itself.
			ends("return\nfunction() f(\nfunction()\n"+body+" end)\n"+body+" end", 2, 1, n, n)
		}
	}
}

// P9.1: locals by themselves, as many as there may be, are fewer than the places.
func TestMaxLocals(t *testing.T) {
	holds(t, map[string]string{
		"local " + row(200):                                                         "200",
		"local " + row(200) + " = 1":                                                "201",
		"return function(" + row(200) + ") end":                                     "1 200",
		"local " + row(200) + " = " + row(50):                                       "250",
		"local " + row(200) + " = " + row(51):                                       "regs at line 1",
		"local " + row(201) + " = " + row(51):                                       "locals at line 1",
		"local " + row(200) + " return " + row(50):                                  "250",
		"local " + row(200) + " return " + row(51):                                  "regs at line 1",
		"local " + row(199) + " for i = 1, 2 do f(" + row(46) + ") end":             "250",
		"local " + row(199) + " for i = 1, 2 do f(" + row(47) + ") end":             "regs at line 1",
		"return function(" + row(200) + ") return " + row(50) + " end":              "1 250",
		"return function(" + row(200) + ", ...) return " + row(49) + ", ... end":    "1 250",
		"\nreturn\nfunction(" + row(200) + ", ...) return " + row(50) + ", ... end": "regs at line 3",
	})
}

// P9.1: of several functions that need too much the first one by number is told, by its own line.
func TestWhichFunction(t *testing.T) {
	much, most := "return "+row(251), "return "+row(250)
	holds(t, map[string]string{
		"f(\nfunction()\n" + much + " end)\n" + much:                                         "regs at line 1",
		"f(\nfunction()\n" + much + " end)\n" + most:                                         "regs at line 2",
		"f(\nfunction()\n" + most + " end)\n" + much:                                         "regs at line 1",
		"f(\nfunction()\n" + most + " end)\n" + most:                                         "250 250",
		"f(\nfunction() " + much + " end,\nfunction() " + much + " end)":                     "regs at line 2",
		"f(\nfunction() " + most + " end,\nfunction() " + much + " end)":                     "regs at line 3",
		"f(\nfunction() " + most + " end,\nfunction() " + most + " end)":                     "3 250 250",
		"f(\nfunction() f(\nfunction() " + much + " end)\n" + much + " end)":                 "regs at line 2",
		"f(\nfunction() f(\nfunction() " + much + " end)\n" + most + " end)":                 "regs at line 3",
		"f(\nfunction() f(\nfunction() " + most + " end)\n" + much + " end)":                 "regs at line 2",
		"f(\nfunction() f(\nfunction() " + most + " end)\n" + most + " end)":                 "2 250 250",
		"f(\nfunction() f(\nfunction() " + much + " end) end,\nfunction() " + much + " end)": "regs at line 3",
		"f(\nfunction() f(\nfunction() end) end,\nfunction() " + much + " end)":              "regs at line 4",
		// One that is met first, but stands in a value of the same statement.
		"local a, b =\nfunction() " + much + " end,\nfunction() " + much + " end": "regs at line 2",
		"t[\nfunction() " + much + " end] =\nfunction() " + much + " end":         "regs at line 2",
		// The values of a loop are met ahead of its block.
		"for i in\nfunction() " + much + " end do f(\nfunction() " + much + " end) end":  "regs at line 2",
		"repeat f(\nfunction() " + much + " end) until f(\nfunction() " + much + " end)": "regs at line 2",
		"\nlocal\nfunction f() " + much + " end\nlocal function g() " + much + " end":    "regs at line 3",
	})
}

// P9.1: the line is the function's node's, whatever lines there are around it and in it, and wherever nodes stand.
func TestWhichLine(t *testing.T) {
	wide := func(line, wide int) piece {
		p := function(wide)
		p.node.Line = line
		return p
	}
	for what, one := range map[string]struct {
		root piece
		line int
	}{
		"root":             {of(api.Node{Kind: api.SBlock, Line: 77}, set(251)), 77},
		"root and within":  {of(api.Node{Kind: api.SBlock, Line: 77}, set(251), of(api.Node{Kind: api.SReturn, Line: 3}, wide(2, 251))), 77},
		"within":           {of(api.Node{Kind: api.SBlock, Line: 77}, of(api.Node{Kind: api.SReturn, Line: 3}, wide(2, 251))), 2},
		"the first is low": {of(api.Node{Kind: api.SBlock, Line: 5}, of(api.Node{Kind: api.SReturn, Line: 6}, wide(9, 251), wide(4, 251))), 9},
		"the second alone": {of(api.Node{Kind: api.SBlock, Line: 5}, of(api.Node{Kind: api.SReturn, Line: 6}, wide(9, 250), wide(4, 251))), 4},
		"a great line":     {of(api.Node{Kind: api.SBlock, Line: 5}, of(api.Node{Kind: api.SReturn, Line: 6}, wide(1<<40, 251))), 1 << 40},
		"another's block": {of(api.Node{Kind: api.SBlock, Line: 5}, kind(api.SReturn,
			of(api.Node{Kind: api.EFunc, Line: 8}, of(api.Node{Kind: api.SBlock, Line: 9}, of(api.Node{Kind: api.SReturn, Line: 10}, exp(251)))))), 8},
	} {
		x := laid(t, one.root)
		for range 2 {
			if _, is := check(t, x); is != (fault{one.line, api.ErrRegs}) {
				t.Errorf("%s: line %d, %v, not line %d", what, is.line, is.err, one.line)
			}
			x = turned(x)
		}
	}
}

// turned is a tree with its nodes the other way round.
func turned(x api.Tree) api.Tree {
	last := len(x.Nodes) - 1
	y := api.Tree{Root: last - x.Root}
	for _, n := range slices.Backward(x.Nodes) {
		n.Kids = slices.Clone(n.Kids)
		for k := range n.Kids {
			n.Kids[k] = last - n.Kids[k]
		}
		y.Nodes = append(y.Nodes, n)
	}
	return y
}

// faults of layer 8, each as a statement of one line.
func faults() map[string]string {
	var ups []string
	for i := range 61 {
		ups = append(ups, fmt.Sprint("u", i))
	}
	names := strings.Join(ups, ", ")
	return map[string]string{
		"while x do f(function() break end) end":                        "goto",
		"do goto none end":                                              "goto",
		"f(function() return ... end)":                                  "vararg",
		"do ::l:: ::l:: end":                                            "label",
		"do goto m local x ::m:: f() end":                               "jump",
		"f(function() local " + row(201) + " end)":                      "locals",
		"do local " + names + " f(function() f(" + names + ") end) end": "ups",
	}
}

// P9.1: layer 8's errors are told ahead of ErrRegs, wherever they stand, at their lines.
func TestOthersFirst(t *testing.T) {
	much := "f(" + row(250) + ")"
	for one, word := range faults() {
		for line, srcs := range map[int][]string{
			1: {one, one + "\n" + much, one + " f(\nfunction() " + much + " end)"},
			2: {much + "\n" + one, "f(function() " + much + " end)\n" + one, "f(function()\n" + one + " end) " + much, "f(function() " + much + "\n" + one + " end)", much + " " + much + "\n" + one + "\n" + one},
			3: {"\n" + much + "\n" + one + "\n" + much},
		} {
			for _, src := range srcs {
				if is, want := got(t, src), fmt.Sprint(word, " at line ", line); is != want {
					t.Errorf("%.60q: %s, not %s", src, is, want)
				}
			}
		}
	}
}

// P9.1: what isn't Right is ErrForm, at line 0, ahead of all others.
func TestForm(t *testing.T) {
	refused := func(what string, x api.Tree) {
		t.Helper()
		if _, is := check(t, x); is != (fault{0, api.ErrForm}) || tree.Right(x) {
			t.Errorf("%s: line %d, %v", what, is.line, is.err)
		}
	}
	refused("nothing", api.Tree{})
	refused("no block", api.Tree{Nodes: []api.Node{{Kind: api.SBreak, Line: 1}}})
	refused("an expression", api.Tree{Nodes: []api.Node{{Kind: api.ENil, Line: 1}}})
	refused("a function", api.Tree{Root: 1, Nodes: []api.Node{{Kind: api.SBlock, Line: 1}, {Kind: api.EFunc, Line: 1, Kids: []int{0}}}})
	bad := map[string]func(x *api.Tree){
		"a line":        func(x *api.Tree) { x.Nodes[len(x.Nodes)-1].Line = 0 },
		"a root":        func(x *api.Tree) { x.Root = len(x.Nodes) },
		"below":         func(x *api.Tree) { x.Root = -1 },
		"another":       func(x *api.Tree) { x.Root = (x.Root + 1) % len(x.Nodes) },
		"loose":         func(x *api.Tree) { x.Nodes = append(x.Nodes, api.Node{Kind: api.ENil, Line: 1}) },
		"a ring":        func(x *api.Tree) { x.Nodes[len(x.Nodes)-1].Kids = []int{x.Root} },
		"no such Kid":   func(x *api.Tree) { x.Nodes[x.Root].Kids = append(x.Nodes[x.Root].Kids, 1<<40) },
		"an Op":         func(x *api.Tree) { x.Nodes[x.Root].Op = 77 },
		"many nodes":    func(x *api.Tree) { *x = broad(*x, api.MaxNodes+1) },
		"deep":          func(x *api.Tree) { *x = deeper(*x, 98) },
		"deeper still":  func(x *api.Tree) { *x = deeper(*x, 5000) },
		"no such Kind":  func(x *api.Tree) { x.Nodes[len(x.Nodes)-1].Kind = 33 },
		"no Kind":       func(x *api.Tree) { x.Nodes[len(x.Nodes)-1].Kind = 0 },
		"a negative":    func(x *api.Tree) { x.Nodes[len(x.Nodes)-1].Kind = -1 },
		"a block twice": func(x *api.Tree) { x.Nodes[x.Root].Kids = append(x.Nodes[x.Root].Kids, x.Nodes[x.Root].Kids[0]) },
	}
	for what, change := range bad {
		// Fine, too much for layer 9, and wrong for layer 8.
		for src, err := range map[string]api.Errno{"f(x)": api.OK, "f(" + row(250) + ")": api.ErrRegs, "goto l f(x)": api.ErrGoto} {
			x := parsed(t, src)
			if _, is := check(t, x); is.err != err {
				t.Errorf("%.60q: %v", src, is.err)
			}
			change(&x)
			refused(what, x)
		}
	}
	// Kids and fields that a Kind may not have, and such as it must have.
	for _, n := range []api.Node{
		{Kind: api.EIndex}, {Kind: api.ECall}, {Kind: api.EMethod, S: "m"}, {Kind: api.EBinary, Op: api.Add}, {Kind: api.EUnary, Op: api.Not}, {Kind: api.EParen},
		{Kind: api.EBinary, Op: api.Neg}, {Kind: api.EFunc}, {Kind: api.EName}, {Kind: api.IPos}, {Kind: api.IKey}, {Kind: api.SBlock},
	} {
		x := laid(t, kind(api.SBlock, kind(api.SReturn, kind(api.ENil))))
		n.Line = 1
		x.Nodes[2] = n
		refused(fmt.Sprint("Kind ", n.Kind), x)
	}
	for _, n := range []api.Node{
		{Kind: api.SLocal}, {Kind: api.SAssign, N: 1}, {Kind: api.SAssign, N: -1}, {Kind: api.SAssign, N: 1 << 40}, {Kind: api.SCall}, {Kind: api.SDo}, {Kind: api.SWhile}, {Kind: api.SRepeat},
		{Kind: api.SIf}, {Kind: api.SFor, Names: []string{"a"}}, {Kind: api.SEach, N: 1, Names: []string{"a"}}, {Kind: api.SEach, N: 1 << 62, Names: []string{"a"}}, {Kind: api.SFunc, Names: []string{"a"}},
	} {
		x := laid(t, kind(api.SBlock, kind(api.SBreak)))
		n.Line = 1
		x.Nodes[1] = n
		refused(fmt.Sprint("Kind ", n.Kind), x)
	}
}

// broad is a tree with labels behind its last statement, up to so many nodes.
func broad(x api.Tree, nodes int) api.Tree {
	kids := slices.Clone(x.Nodes[x.Root].Kids)
	for i := len(x.Nodes); i < nodes; i++ {
		kids = append(kids, i)
		x.Nodes = append(x.Nodes, api.Node{Kind: api.SLabel, Line: 1, S: fmt.Sprint("l", i)})
	}
	x.Nodes[x.Root].Kids = kids
	return x
}

// deeper is a tree with a do around it, and one around that, and so on.
func deeper(x api.Tree, times int) api.Tree {
	for range times {
		n := len(x.Nodes)
		x.Nodes = append(x.Nodes, api.Node{Kind: api.SDo, Line: 1, Kids: []int{x.Root}}, api.Node{Kind: api.SBlock, Line: 1, Kids: []int{n}})
		x.Root = n + 1
	}
	return x
}

// P9.1: the greatest trees: as many nodes as may be, as deep as may be.
func TestGreatTrees(t *testing.T) {
	const n = 5000
	holds(t, map[string]string{
		"f(" + row(n) + ")":                                                     "regs at line 1",
		"return {" + row(n) + "}":                                               "2",
		"return a" + strings.Repeat(" and a", 45):                               "1",
		strings.Repeat("f(a) ", n/2):                                            "2",
		strings.Repeat("x = function(a) end ", n/3):                             "1" + strings.Repeat(" 1", n/3),
		"if a then f(a) " + strings.Repeat("elseif a then f(a) ", n/3) + "end":  "2",
		"return " + strings.Repeat("{a = ", 45) + "a" + strings.Repeat("}", 45): "91",
		strings.Repeat("while f(a) do ", 45) + strings.Repeat("end ", 45):       "2",
		strings.Repeat("for i = 1, 2 do ", 45) + strings.Repeat("end ", 45):     "180",
		strings.Repeat("for i in a do ", 45) + strings.Repeat("end ", 45):       "183",
	})
	for src, want := range map[string][]int{"f(x)": {2}, "local a = 1, 2 f(function(b) end)": {3, 1}} {
		for _, x := range []api.Tree{broad(parsed(t, src), api.MaxNodes), deeper(parsed(t, src), (100-tree.Deep(parsed(t, src)))/2)} {
			if l, is := check(t, x); is.err != api.OK || !slices.Equal(l, want) {
				t.Error(src, l, is, len(x.Nodes), tree.Deep(x))
			}
		}
	}
	// Numbers that go far beyond the limit: each call within the arguments of the one around.
	much := strings.Repeat("f("+row(300)+", ", 20) + "a" + strings.Repeat(")", 20)
	holds(t, map[string]string{"return " + much: "regs at line 1", "x = 1\nf(function()\n\nf(function() " + much + " end) end)": "regs at line 4"})
}

// roomy is a copy of a tree, each list with spare room that isn't zero.
func roomy(x api.Tree) api.Tree {
	y := api.Tree{Root: x.Root}
	for _, n := range x.Nodes {
		n.Names = append(slices.Clone(n.Names), "spare", "room")[:len(n.Names)]
		n.Kids = append(slices.Clone(n.Kids), -7, -8)[:len(n.Kids)]
		y.Nodes = append(y.Nodes, n)
	}
	y.Nodes = append(y.Nodes, api.Node{Kind: -9})[:len(y.Nodes)]
	return y
}

// spare is a tree as text, with the spare room that roomy gave it.
func spare(x api.Tree) string {
	var l []any
	for _, n := range x.Nodes {
		l = append(l, n.Kind, n.Line, n.Op, n.N, n.S, n.Names[:len(n.Names)+2], n.Kids[:len(n.Kids)+2])
	}
	return fmt.Sprint(x.Root, x.Nodes[:len(x.Nodes)+1][len(x.Nodes)], l)
}

// sources that come to all sorts of answers.
func sources() []string {
	l := []string{"", "local a, b = f(1, g(2, 3)) return function(c, ...) t[a], u.v = o:m(c), {1, x = ...} end", "for i = 1, 2 do for k in f do repeat until k end end", "f(" + row(250) + ")"}
	for one := range faults() {
		l = append(l, one)
	}
	return l
}

// Rules 4 and 5: what is handed in isn't changed, nor is its spare room, nor is it kept; an answer hangs on it alone.
func TestHandedIn(t *testing.T) {
	wrong := api.Tree{Nodes: []api.Node{{Kind: api.SBlock, Line: 1, Kids: []int{1, 1}, Names: []string{"a"}}, {Kind: 99, Kids: []int{0}}}}
	trees := []api.Tree{wrong}
	for _, src := range sources() {
		trees = append(trees, parsed(t, src))
	}
	for _, x := range trees {
		x = roomy(x)
		before := spare(x)
		first, err := need.Need(x)
		want := slices.Clone(first)
		for range 2 {
			again, other := need.Need(x)
			if !slices.Equal(again, want) || sure(t, again, other) != sure(t, first, err) {
				t.Fatalf("otherwise the second time: %s", short(x))
			}
			// An answer is its own: who writes into one changes no other.
			scribble(again[:cap(again)], -1)
		}
		if spare(x) != before {
			t.Fatalf("changed: %s", short(x))
		}
		for i := range x.Nodes {
			scribble(x.Nodes[i].Names[:cap(x.Nodes[i].Names)], "!")
			scribble(x.Nodes[i].Kids[:cap(x.Nodes[i].Kids)], -1)
		}
		scribble(x.Nodes, api.Node{Kind: -1})
		if !slices.Equal(first, want) {
			t.Fatalf("kept: %s", before)
		}
	}
}

func scribble[T any](l []T, with T) {
	for i := range l {
		l[i] = with
	}
}

// Errors are new each time: one who writes into his changes nobody else's.
func TestErrorsAreNew(t *testing.T) {
	trees := []api.Tree{{}}
	for _, src := range sources() {
		trees = append(trees, parsed(t, src))
	}
	for _, x := range trees {
		_, want := check(t, x)
		_, err := need.Need(x)
		if err == nil {
			continue
		}
		f, ok := err.(*api.Fault)
		if !ok {
			t.Fatalf("%v is no fault", err)
		}
		f.Line, f.Err = 77, api.ErrArg
		if _, is := check(t, x); is != want {
			t.Error(is, want)
		}
	}
}

// Rule 3: nil and empty lists are one.
func TestEmptyLists(t *testing.T) {
	for _, src := range sources() {
		x, err := parse.Parse(src)
		if err != nil {
			t.Fatal(err)
		}
		y := roomy(x)
		for i := range y.Nodes {
			n := &y.Nodes[i]
			if n.Names, n.Kids = append([]string{}, n.Names...), append([]int{}, n.Kids...); i%2 == 0 && len(n.Kids) == 0 {
				n.Kids = nil
			}
		}
		l, wrong := check(t, x)
		m, other := check(t, y)
		if !slices.Equal(l, m) || wrong != other {
			t.Errorf("%.60q: %v, %v; %v, %v", src, l, m, wrong, other)
		}
	}
}
