package scope_test

import (
	"fmt"
	"math/rand"
	"reflect"
	"slices"
	"strings"
	"testing"

	"selkie/api"
	"selkie/scope"
	"selkie/tree"
)

// row is n names with commas between: p0, p1, and so on.
func row(p string, n int) string {
	l := make([]string, n)
	for i := range l {
		l[i] = fmt.Sprint(p, i)
	}
	return strings.Join(l, ", ")
}

// told: is what is said of these sources, from the front on, what is told?
func told(t *testing.T, what string, pairs ...string) {
	t.Helper()
	for i := 0; i < len(pairs); i += 2 {
		is := got(t, pairs[i])
		if !strings.Contains(is, " at line ") {
			is = "fine"
		}
		if is != pairs[i+1] {
			t.Errorf("%s: %.100q: %.300s, not %s", what, pairs[i], is, pairs[i+1])
		}
	}
}

// P8.1: as many locals as a function may have, and one more, by each Kind that declares; each has a function of its own.
func TestMaxLocals(t *testing.T) {
	for what, one := range map[string]string{
		"local":    "\nlocal a",
		"function": "\nlocal function f() end",
		"for":      "\nfor i = 1, 2 do end",
		"each":     "\nfor i in x do end",
		"deep":     "\ndo do local a end end",
		"repeat":   "\nrepeat local a until a",
		"in for":   "\nfor i = 1, 2 do f(i) end",
	} {
		least := strings.Repeat(one, 200)
		told(t, what, least, "fine", least+one, "locals at line 202", least+"\nx = 1"+one+"\n"+one, "locals at line 203",
			"return function()"+least+" end", "fine", "return function()"+least+one+" end", "locals at line 202",
			strings.Repeat("local a ", 199)+one+"\n\n"+one, "locals at line 5")
		for other, more := range map[string]string{
			"local": "local a", "function": "local function f() end", "for": "for i = 1, 2 do end", "each": "for i in x do end", "repeat": "repeat local a until a",
		} {
			told(t, what+", "+other, least[:len(least)-len(one)]+"\n"+more, "fine", least+"\n"+more, "locals at line 202")
		}
		// Of another function there are none.
		told(t, what, least+" f(function() local a, b return a end)", "fine", least+" f(function(a, b) end)", "fine",
			"f(function()"+least+" end, function()"+least+" end)"+least, "fine", "f(function()"+least+" end)"+least+one, "locals at line 402",
			"return function()"+least+" return function()"+least+" end end", "fine",
			"return function()"+least+" return function()"+least+one+" end end", "locals at line 402")
	}
	for what, many := range map[string]func(n int) string{
		"locals":     func(n int) string { return "\n\nlocal " + row("a", n) },
		"values":     func(n int) string { return "\n\nlocal " + row("a", n) + "\n= 1,\n2" },
		"parameters": func(n int) string { return "\nf(\nfunction(" + row("a", n) + ")\nend)" },
		"many":       func(n int) string { return "\nf(\nfunction(" + row("a", n) + ", ...)\nend)" },
		"each":       func(n int) string { return "\n\nfor " + row("a", n) + "\nin x do end" },
	} {
		told(t, what, many(199), "fine", many(200), "fine", many(201), "locals at line 3", many(2000), "locals at line 3")
	}
	told(t, "method", "\nfunction t:m("+row("a", 199)+") end", "fine", "\nfunction t:m("+row("a", 200)+") end", "locals at line 2")
	told(t, "parameters and more", "f(function("+row("a", 200)+")\nend)", "fine", "f(function("+row("a", 200)+")\nlocal a end)", "locals at line 2",
		"f(function("+row("a", 199)+")\nlocal a end)", "fine", "f(function("+row("a", 199)+")\nlocal a, b end)", "locals at line 2")
	told(t, "a few at once", strings.Repeat("local a ", 198)+"\nlocal a, b", "fine", strings.Repeat("local a ", 198)+"\nlocal a, b, c", "locals at line 2")
}

// used is n locals of a function, and from each of these on uses of them.
func used(n int) string { return "f(" + row("a", n) + ")" }

// P8.1: as many upvalues as a function may have, and one more: in a function within, and in one between.
func TestMaxUps(t *testing.T) {
	around := func(s string) string { return "local " + row("a", 100) + " f(function()\n" + s + " end)" }
	within := func(s string) string { return around("f(function()\n" + s + " end)") }
	for what, in := range map[string]func(string) string{
		"within":      around,
		"within both": within,
		"in a loop":   func(s string) string { return around("while x do " + s + " end") },
		"in a block":  func(s string) string { return around("do local x do " + s + " end end") },
	} {
		line := 1 + strings.Count(in(""), "\n")
		fails := fmt.Sprint("ups at line ", line)
		told(t, what, in(used(59)), "fine", in(used(60)), "fine", in(used(61)), fails, in(used(100)), fails,
			in(used(60)+used(60)+used(60)), "fine", in(used(60)+" local b, c f(b, c)"), "fine", in(used(60)+" f(g, h)"), "fine",
			in(used(60)+" f(a0, a59)"), "fine", in(used(60)+"\nf(a60)"), fmt.Sprint("ups at line ", line+1),
			in(used(60)+"\nf(a1,\na77)"), fmt.Sprint("ups at line ", line+2), in(used(60)+"\na60 = 1"), fmt.Sprint("ups at line ", line+1),
			in(used(60)+"\nlocal a60 f(a60)"), "fine", in(used(60)+"\nlocal a60 = a60"), fmt.Sprint("ups at line ", line+1))
	}
	told(t, "beside each other", "local "+row("a", 100)+" f(function() "+used(60)+" end, function() f(a70) "+used(59)+" end)", "fine",
		"local "+row("a", 100)+" f(function() "+used(60)+" end,\nfunction() f(a70) "+used(60)+" end)", "ups at line 2")
	told(t, "between, of its own none", around("f(function() "+used(60)+" end)"), "fine", around("f(function() "+used(61)+" end)"), "ups at line 2",
		around("f(function() "+used(30)+" end, function() "+used(60)+" end)"), "fine",
		around("f(function() "+used(30)+" end,\nfunction() f(a70) "+used(59)+" end)"), "fine",
		around("f(function() "+used(30)+" end,\nfunction() f(a70) "+used(60)+" end)"), "ups at line 3")
	told(t, "between, of its own some", around(used(60)+" f(function()\n"+used(60)+" end)"), "fine",
		around(used(60)+" f(function()\nf(a60) end)"), "ups at line 3", around(used(60)+" f(function() f(function()\nf(a60) end) end)"), "ups at line 3",
		around("f(function()\n"+used(60)+" end) f(a3)\nf(a60)"), "ups at line 4")
	// A function between has fewer than the one within, that uses locals of it, too.
	told(t, "of two functions", around("local "+row("b", 30)+" f(function() f("+row("b", 30)+")\n"+used(30)+" end)"), "fine",
		around("local "+row("b", 30)+" f(function() f("+row("b", 30)+")\n"+used(31)+" end)"), "ups at line 3",
		around("local "+row("b", 30)+" f(function() "+used(31)+"\nf("+row("b", 30)+") end)"), "ups at line 3",
		around("local "+row("b", 30)+" "+used(60)+" f(function() f("+row("b", 30)+")\n"+used(30)+" end)"), "fine")
	// A local that is declared again is another one.
	again := "local " + strings.Repeat("a, ", 61) + "a\n"
	told(t, "one name", again+"f(function() "+strings.Repeat("f(a) ", 100)+"end)", "fine",
		"f(function() "+strings.Repeat("local a f(function() f(a) end) ", 100)+"end)", "fine",
		"local a "+strings.Repeat("f(function() f(a) end) local a ", 199), "fine")
}

// The faults that there are, each as a statement of one line.
func faults() map[string]string {
	return map[string]string{
		"while x do f(function() break end) end":                   "goto",
		"do goto none end":                                         "goto",
		"f(function() return ... end)":                             "vararg",
		"do ::l:: ::l:: end":                                       "label",
		"do goto m local x ::m:: f() end":                          "jump",
		"f(function() " + strings.Repeat("local a ", 201) + "end)": "locals",
		"do local " + row("u", 61) + " f(function() f(" + row("u", 61) + ") end) end": "ups",
	}
}

// P8.1: of several errors the one that is met first is told, by its line.
func TestWhichError(t *testing.T) {
	for one, a := range faults() {
		told(t, "alone", one, a+" at line 1", "\n\nf()\n"+one, a+" at line 4")
		for two, b := range faults() {
			told(t, "statements", one+"\n"+two, a+" at line 1", "f()\n\n"+two+"\n"+one+"\n"+one, b+" at line 3")
			told(t, "a statement within", "do\n"+one+"\nend "+two, a+" at line 2", "while x do\n"+one+"\n"+two+" end "+two, a+" at line 2")
			told(t, "a function within", "f(function()\n"+one+" end)\n"+two, a+" at line 2", one+"\nf(function()\n"+two+" end)", a+" at line 1")
			told(t, "functions in a row", "f(function()\n"+one+" end, function()\n"+two+" end)", a+" at line 2")
			told(t, "operands", "x = (function()\n"+one+" end) + (function()\n"+two+" end)", a+" at line 2")
			told(t, "target and value", "x[function()\n"+one+" end] = function()\n"+two+" end", a+" at line 2")
			told(t, "key and value", "x = {[function()\n"+one+" end] = function()\n"+two+" end}", a+" at line 2")
			told(t, "while", "while f(function()\n"+one+" end) do\n"+two+" end", a+" at line 2")
			told(t, "repeat", "repeat\n"+one+"\nuntil f(function() "+two+" end)", a+" at line 2")
			told(t, "if", "if f(function()\n"+one+" end) then\n"+two+" end", a+" at line 2",
				"if x then\n"+one+" elseif f(function()\n"+two+" end) then end", a+" at line 2", "if x then\n"+one+" else\n"+two+" end", a+" at line 2")
			told(t, "for", "for i = f(function()\n"+one+" end), 1 do\n"+two+" end", a+" at line 2", "for i = 1, 2, f(function()\n"+one+" end) do\n"+two+" end", a+" at line 2")
			told(t, "each", "for i in f(function()\n"+one+" end) do\n"+two+" end", a+" at line 2")
			told(t, "local function", "local function g()\n"+one+" end\n"+two, a+" at line 2")
		}
		// A block's labels are looked at when it is met, ahead of all that stands in it.
		told(t, "labels", one+"\n::k::\n::k::", "label at line 3", "do\n"+one+"\n::k::\n::k:: end", "label at line 4",
			"f(function()\n"+one+"\n::k::\n::k:: end)", "label at line 4", "repeat\n"+one+"\n::k::\n::k:: until x", "label at line 4")
		if a != "label" {
			told(t, "labels of a block that is met later", one+"\ndo ::k::\n::k:: end", a+" at line 1", "do ::k::\n"+one+" end do ::k::\n::k:: end", a+" at line 2")
		}
		// Names are declared where the chapter says: behind values, but ahead of a function and of a block.
		least := strings.Repeat("local a ", 200)
		told(t, "local", least+"\nlocal b =\nf(function() "+one+" end)", a+" at line 3", least+"\nlocal b = 1\n"+one, "locals at line 2")
		told(t, "for", least+"\nfor i = 1,\nf(function() "+one+" end) do end", a+" at line 3", least+"\nfor i = 1, 2 do\n"+one+" end", "locals at line 2")
		told(t, "each", least+"\nfor i in\nf(function() "+one+" end) do end", a+" at line 3", least+"\nfor i in x do\n"+one+" end", "locals at line 2")
		told(t, "local function", least+"\nlocal function g()\n"+one+" end", "locals at line 2")
		told(t, "function", "f(\nfunction("+row("a", 201)+")\n"+one+" end)", "locals at line 2")
		told(t, "function", "f(\nfunction("+row("a", 201)+") ::k::\n::k:: end)", "locals at line 2")
	}
	told(t, "a local's own line", strings.Repeat("local a ", 200)+"\nlocal\nb\n=\n1", "locals at line 2", strings.Repeat("local a ", 200)+"\nlocal\nfunction\ng() end", "locals at line 2")
	told(t, "a name's own line", "local "+row("a", 61)+" f(function() f("+row("a", 60)+",\n\na60) end)", "ups at line 3")
}

// P8.1: what isn't Right is ErrForm, at line 0, ahead of all others.
func TestForm(t *testing.T) {
	form := fault{line: 0, err: api.ErrForm}
	refused := func(what string, x api.Tree) {
		t.Helper()
		if is := check(t, x); is != form || tree.Right(x) {
			t.Errorf("%s: %v at line %d", what, is.err, is.line)
		}
	}
	refused("nothing", api.Tree{})
	refused("no block", api.Tree{Nodes: []api.Node{{Kind: api.SBreak, Line: 1}}})
	for one, name := range faults() {
		base := func() api.Tree { return parsed(t, one) }
		last := func(x api.Tree) int { return newOracle(x).order[len(x.Nodes)-1] }
		for what, change := range map[string]func(x *api.Tree){
			"a line":     func(x *api.Tree) { x.Nodes[last(*x)].Line = 0 },
			"a kind":     func(x *api.Tree) { x.Nodes[last(*x)].Kind = 33 },
			"a root":     func(x *api.Tree) { x.Root = len(x.Nodes) },
			"below":      func(x *api.Tree) { x.Root = -1 },
			"another":    func(x *api.Tree) { x.Root = last(*x) },
			"loose":      func(x *api.Tree) { x.Nodes = append(x.Nodes, api.Node{Kind: api.ENil, Line: 1}) },
			"a kid":      func(x *api.Tree) { x.Nodes[last(*x)].Kids = []int{len(x.Nodes)} },
			"a ring":     func(x *api.Tree) { x.Nodes[last(*x)].Kids = []int{x.Root} },
			"a keyword":  func(x *api.Tree) { x.Nodes[last(*x)].Names = []string{"end"} },
			"an Op":      func(x *api.Tree) { x.Nodes[last(*x)].Op = 77 },
			"no nodes":   func(x *api.Tree) { x.Nodes = nil },
			"many nodes": func(x *api.Tree) { *x = wide(*x, api.MaxNodes+1) },
			"deep":       func(x *api.Tree) { *x = deeper(*x) },
		} {
			x := base()
			if is := check(t, x); is.err.Error() != name {
				t.Errorf("%.50q: %v", one, is.err)
			}
			change(&x)
			refused(what, x)
		}
	}
	// As many nodes, and as deep, as may be.
	for _, x := range []api.Tree{wide(parsed(t, "break"), api.MaxNodes), parsed(t, strings.Repeat("do ", 49)+"break"+strings.Repeat(" end", 49))} {
		if is := check(t, x); is != (fault{line: 1, err: api.ErrGoto}) {
			t.Error(is, len(x.Nodes), tree.Deep(x))
		}
	}
}

// wide is a tree with breaks behind its last statement, up to so many nodes.
func wide(x api.Tree, nodes int) api.Tree {
	root := &x.Nodes[x.Root]
	root.Kids = slices.Clone(root.Kids)
	for len(x.Nodes) < nodes {
		root.Kids = append(root.Kids, len(x.Nodes))
		x.Nodes = append(x.Nodes, api.Node{Kind: api.SBreak, Line: 1})
		root = &x.Nodes[x.Root]
	}
	return x
}

// deeper is a tree deeper than it may be, of which all else is as it was.
func deeper(x api.Tree) api.Tree {
	for range 50 {
		x.Nodes = append(x.Nodes, api.Node{Kind: api.SDo, Line: 1, Kids: []int{x.Root}}, api.Node{Kind: api.SBlock, Line: 1, Kids: []int{len(x.Nodes)}})
		x.Root = len(x.Nodes) - 1
	}
	return x
}

// P8.1, P8.2: the greatest trees: as many nodes, labels, jumps, functions and names as may be, as deep as may be.
func TestGreatTrees(t *testing.T) {
	const n = 3000
	for what, x := range map[string]struct{ src, want string }{
		"breaks":    {"while x do " + strings.Repeat("break ", n) + "end", "fine"},
		"jumps":     {strings.Repeat("goto l ", n) + "::l:: " + strings.Repeat("goto l ", n) + "\ngoto m", "goto at line 2"},
		"across":    {strings.Repeat("goto l ", n) + "\ngoto l local x ::l:: f()", "jump at line 1"},
		"globals":   {strings.Repeat("f() ", n), "fine"},
		"functions": {"x = 1" + strings.Repeat(", function() end", n), "fine"},
		"names":     {"local a, b return function() x = a" + strings.Repeat(", a, b", n) + " end", "fine"},
		"deep":      {strings.Repeat("return function(a) ", 32) + "return a " + strings.Repeat("end ", 32), "fine"},
		"led far":   {"local a " + strings.Repeat("return function() ", 32) + "f(a" + strings.Repeat(", a", n) + ") " + strings.Repeat("end ", 32), "fine"},
		"blocks":    {strings.Repeat("do local a end ", 200) + strings.Repeat("do end ", n), "fine"},
		"nested":    {strings.Repeat("do local a ", 47) + "f(a)" + strings.Repeat(" end", 47), "fine"},
	} {
		told(t, what, x.src, x.want)
	}
	var l strings.Builder
	for i := range 2500 {
		fmt.Fprintf(&l, "::l%d:: goto l%d ", i, 2499-i)
	}
	told(t, "labels", l.String(), "fine", l.String()+"\n::l77::", "label at line 2")
}

// roomy is a copy of a tree, each list with spare room that isn't zero.
func roomy(x api.Tree) api.Tree {
	y := api.Tree{Root: x.Root}
	for _, n := range x.Nodes {
		n.Names = append(slices.Clone(n.Names), "spare", "room")[:len(n.Names)]
		n.Kids = append(slices.Clone(n.Kids), -7, -8)[:len(n.Kids)]
		y.Nodes = append(y.Nodes, n)
	}
	y.Nodes = append(y.Nodes, api.Node{Kind: -9})[:len(y.Nodes)]
	return y
}

// spare is a tree with its spare room, but as much as roomy gave.
func spare(x api.Tree) []any {
	l := []any{x.Root, x.Nodes[:len(x.Nodes)+1][len(x.Nodes)]}
	for _, n := range x.Nodes {
		l = append(l, n.Kind, n.Line, n.Op, n.N, n.S, n.Names[:len(n.Names)+2], n.Kids[:len(n.Kids)+2])
	}
	return l
}

// Rules 4 and 5: what is handed in isn't changed, nor is its spare room, nor is it kept; an answer hangs on it alone.
func TestHandedIn(t *testing.T) {
	g := &grower{r: rand.New(rand.NewSource(87)), names: []string{"a", "b", "c"}, labels: []string{"l", "m", "n"}, kinds: times(jumping), many: 2}
	for range 2000 {
		g.size = 1 + g.r.Intn(60)
		x := g.grow()
		settle(g.r, x)
		x = roomy(x)
		before := roomy(x)
		first, err := scope.Resolve(x)
		want := whole(first)
		for range 2 {
			again, other := scope.Resolve(x)
			if whole(again) != want || sure(t, again, other) != sure(t, first, err) {
				t.Fatalf("otherwise the second time: %s", tree.Print(x))
			}
		}
		if !reflect.DeepEqual(spare(x), spare(before)) {
			t.Fatalf("changed: %s", tree.Print(x))
		}
		for i := range x.Nodes {
			n := &x.Nodes[i]
			scribble(n.Names[:cap(n.Names)], "!")
			scribble(n.Kids[:cap(n.Kids)], -1)
		}
		scribble(x.Nodes, api.Node{Kind: -1})
		if whole(first) != want {
			t.Fatalf("kept: %s", tree.Print(before))
		}
	}
}

// Rule 4: an answer is new memory, and no two of its lists share any, their spare room neither.
func TestListsShareNothing(t *testing.T) {
	x := parsed(t, "local a, b, c local function f(d, e, ...) local g, h, i return function(j, k) return a, b, c, d, e, g, h, i, j, function() return a, j, k, f end end, "+
		"function(l, m, n) return a, b, f end end for o = a, b do for p, q in c do f(function() return o, p, q end) end end")
	s, err := scope.Resolve(x)
	if err != nil {
		t.Fatal(err)
	}
	want := whole(s)
	other, _ := scope.Resolve(x)
	for i := range s.Fns {
		f := &s.Fns[i]
		vars, ups := slices.Clone(f.Vars), slices.Clone(f.Ups)
		scribble(f.Vars[:cap(f.Vars)], scope.Var{Name: "!"})
		scribble(f.Ups[:cap(f.Ups)], scope.Upvalue{Index: -1})
		copy(f.Vars, vars)
		copy(f.Ups, ups)
	}
	scribble(s.Fns[len(s.Fns):cap(s.Fns)], scope.Fn{Node: -1})
	scribble(s.Uses[len(s.Uses):cap(s.Uses)], scope.Use{Kind: -1})
	scribble(s.Of[len(s.Of):cap(s.Of)], -1)
	if whole(s) != want {
		t.Errorf("lists share memory: %s", whole(s))
	}
	for i := range s.Fns {
		scribble(s.Fns[i].Vars, scope.Var{Name: "!"})
		scribble(s.Fns[i].Ups, scope.Upvalue{Index: -1})
	}
	scribble(s.Uses, scope.Use{Kind: -1})
	scribble(s.Of, -1)
	if again, _ := scope.Resolve(x); whole(other) != want || whole(again) != want {
		t.Errorf("answers share memory: %s", whole(other))
	}
}

func scribble[T any](l []T, with T) {
	for i := range l {
		l[i] = with
	}
}

// Errors are new each time: one who writes into his changes nobody else's.
func TestErrorsAreNew(t *testing.T) {
	trees := []api.Tree{{}}
	for one := range faults() {
		trees = append(trees, parsed(t, one))
	}
	for _, x := range trees {
		want := check(t, x)
		_, err := scope.Resolve(x)
		if f, ok := err.(*api.Fault); !ok {
			t.Errorf("%v is no fault", err)
		} else {
			f.Line, f.Err = 77, api.ErrArg
		}
		if is := check(t, x); is != want {
			t.Error(is, want)
		}
	}
}

// Rule 3: nil and empty lists are one.
func TestEmptyLists(t *testing.T) {
	x := parsed(t, "local a return function() local function f() return a end f() end, function(...) ::l:: goto l end, {}")
	s, err := scope.Resolve(x)
	y := roomy(x)
	for i := range y.Nodes {
		y.Nodes[i].Names, y.Nodes[i].Kids = append([]string{}, y.Nodes[i].Names...), append([]int{}, y.Nodes[i].Kids...)
	}
	z := roomy(x)
	for i := range z.Nodes {
		if len(z.Nodes[i].Names) == 0 {
			z.Nodes[i].Names = nil
		}
		if len(z.Nodes[i].Kids) == 0 {
			z.Nodes[i].Kids = nil
		}
	}
	a, b := scope.Resolve(y)
	c, d := scope.Resolve(z)
	if err != nil || b != nil || d != nil || whole(a) != whole(s) || whole(c) != whole(s) {
		t.Error(err, b, d, whole(s), whole(a), whole(c))
	}
}
