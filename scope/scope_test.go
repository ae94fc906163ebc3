package scope_test

import (
	"fmt"
	"strings"
	"testing"

	"selkie/api"
	"selkie/parse"
	"selkie/scope"
)

// words: those of the Kinds that mean something, or that something leads to.
func words(kind int) string {
	return map[int]string{
		api.EFunc: "func", api.SLocal: "local", api.SFor: "for", api.SEach: "each", api.SFunc: "local-func",
		api.SWhile: "while", api.SRepeat: "repeat", api.SBreak: "break", api.SGoto: "goto", api.SLabel: "label",
	}[kind]
}

// functions is the functions of a scope as text: "2+ of 0 a* b ^l1 ^u0" has 2 Names and takes many, stands in function 0, has
// the locals a, that is Captured, and b, and the upvalues Local 1 and not Local 0.
func functions(s scope.Scope) string {
	var l []string
	for _, f := range s.Fns {
		text := fmt.Sprint(f.Params)
		if f.Many {
			text += "+"
		}
		text += fmt.Sprint(" of ", f.Parent)
		for _, v := range f.Vars {
			text += " " + v.Name + map[bool]string{true: "*"}[v.Captured]
		}
		for _, u := range f.Ups {
			text += " ^" + map[bool]string{true: "l", false: "u"}[u.Local] + fmt.Sprint(u.Index)
		}
		l = append(l, text)
	}
	return strings.Join(l, "; ")
}

// uses is what the nodes mean, in the order in which they are met: "a=l0 b=u1 c=g break@2=while@1".
func uses(x api.Tree, s scope.Scope) string {
	var l []string
	for _, at := range newOracle(x).order {
		n, use := x.Nodes[at], s.Uses[at]
		if use == (scope.Use{}) {
			continue
		}
		name := words(n.Kind)
		if n.Kind == api.EName {
			name = n.S
		}
		switch use.Kind {
		case scope.Global:
			name += "=g" + map[bool]string{true: "!"}[use.Index != 0]
		case scope.Local:
			name += fmt.Sprint("=l", use.Index)
		case scope.Up:
			name += fmt.Sprint("=u", use.Index)
		case scope.To:
			to := x.Nodes[use.Index]
			name += fmt.Sprintf("@%d=%s@%d", n.Line, words(to.Kind), to.Line)
		}
		l = append(l, name)
	}
	return strings.Join(l, " ")
}

func parsed(t *testing.T, src string) api.Tree {
	t.Helper()
	x, err := parse.Parse(src)
	if err != nil {
		t.Fatalf("%.300q: %v", src, err)
	}
	return x
}

// got is what Resolve says of a source: its functions and uses, or what is wrong of it.
func got(t *testing.T, src string) string {
	t.Helper()
	x := parsed(t, src)
	if is := check(t, x); is.err != api.OK {
		return fmt.Sprintf("%v at line %d", is.err, is.line)
	}
	s, _ := scope.Resolve(x)
	return strings.TrimSpace(functions(s) + " | " + uses(x, s))
}

func holds(t *testing.T, l map[string]string) {
	t.Helper()
	for src, want := range l {
		if is := got(t, src); is != want {
			t.Errorf("%.300q\n%.300s\n%.300s", src, is, want)
		}
	}
}

// root holds sources without functions: what is told is the root's locals, and the uses.
func root(t *testing.T, l map[string]string) {
	t.Helper()
	for src, want := range l {
		locals, uses, _ := strings.Cut(want, "|")
		want = strings.TrimSpace("0+ of -1 " + locals)
		if is := got(t, src); is != strings.TrimSpace(want+" |"+uses) {
			t.Errorf("%.300q\n%.300s\n%.300s", src, is, want)
		}
	}
}

// P8.1: the chapter's examples.
func TestExamples(t *testing.T) {
	holds(t, map[string]string{
		"local a; return function() return a, b end": "0+ of -1 a*; 0 of 0 ^l0 | local=l0 func=l0 a=u0 b=g",
		"goto l; local x; ::l:: x = 1":               "jump at line 1",
		"goto l; local x; ::l::":                     "0+ of -1 x | goto@1=label@1 local=l0",
	})
}

// P8.1, P8.2: where a local holds from and to.
func TestLocals(t *testing.T) {
	root(t, map[string]string{
		"":                            "|",
		"return":                      "|",
		"x = 1":                       "| x=g",
		"x.y = z[1]":                  "| x=g z=g",
		"return ...":                  "|",
		"local a":                     "a | local=l0",
		"local a, b = b, a":           "a b | local=l0 b=g a=g",
		"local a return a":            "a | local=l0 a=l0",
		"return a":                    "| a=g",
		"x = a local a":               "a | x=g a=g local=l0",
		"local a = a":                 "a | local=l0 a=g",
		"local a = a, a, a":           "a | local=l0 a=g a=g a=g",
		"local a local a = a":         "a a | local=l0 local=l1 a=l0",
		"local a local a return a":    "a a | local=l0 local=l1 a=l1",
		"local a, b, c return c, a":   "a b c | local=l0 c=l2 a=l0",
		"local a, a return a":         "a a | local=l0 a=l1",
		"local a, b, a return a, b":   "a b a | local=l0 a=l2 b=l1",
		"local a, b local c, d = b":   "a b c d | local=l0 local=l2 b=l1",
		"local a a = 1 a.b = a":       "a | local=l0 a=l0 a=l0 a=l0",
		"local a a, b = b, a":         "a | local=l0 a=l0 b=g b=g a=l0",
		"do local a end return a":     "a | local=l0 a=g",
		"do local a return a end":     "a | local=l0 a=l0",
		"local a do return a end":     "a | local=l0 a=l0",
		"local a do local a end f(a)": "a a | local=l0 local=l1 f=g a=l0",
		"do local a end do local a, b f(a) end local c f(a)": "a a b c | local=l0 local=l1 f=g a=l1 local=l3 f=g a=g",
		"local a do f(a) local a f(a) end f(a)":              "a a | local=l0 f=g a=l0 local=l1 f=g a=l1 f=g a=l0",
		"local a do do do f(a) end end end":                  "a | local=l0 f=g a=l0",
		"local b return a.b, a[b], a:b(b), {b = b, [b] = b}": "b | local=l0 a=g a=g b=l0 a=g b=l0 b=l0 b=l0 b=l0",
		"local a return a + a, -a, (a), a(a), a{a}, a'a'":    "a | local=l0 a=l0 a=l0 a=l0 a=l0 a=l0 a=l0 a=l0 a=l0 a=l0",
		"local a return a:a(a)":                              "a | local=l0 a=l0 a=l0",
		"local A, a, _ return a, A, _, aa":                   "A a _ | local=l0 a=l1 A=l0 _=l2 aa=g",
	})
}

// P8.1, P8.2: each statement with blocks: what holds in its tests, values, blocks, and behind it.
func TestBlocks(t *testing.T) {
	root(t, map[string]string{
		"while a do local a f(a) end f(a)":                          "a | a=g local=l0 f=g a=l0 f=g a=g",
		"local a while a do local a f(a) end f(a)":                  "a a | local=l0 a=l0 local=l1 f=g a=l1 f=g a=l0",
		"repeat local a until a f(a)":                               "a | local=l0 a=l0 f=g a=g",
		"repeat until a local a":                                    "a | a=g local=l0",
		"local a repeat local a until a f(a)":                       "a a | local=l0 local=l1 a=l1 f=g a=l0",
		"repeat local a do local a end until a":                     "a a | local=l0 local=l1 a=l0",
		"repeat do local a end until a":                             "a | local=l0 a=g",
		"repeat repeat local a until a until a":                     "a | local=l0 a=l0 a=g",
		"repeat local a repeat local a until a until a":             "a a | local=l0 local=l1 a=l1 a=l0",
		"if a then local a f(a) elseif a then f(a) else f(a) end":   "a | a=g local=l0 f=g a=l0 a=g f=g a=g f=g a=g",
		"if a then f() elseif a then local a f(a) end f(a)":         "a | a=g f=g a=g local=l0 f=g a=l0 f=g a=g",
		"if x then else local a f(a) end f(a)":                      "a | x=g local=l0 f=g a=l0 f=g a=g",
		"local a if a then local a elseif a then local a end f(a)":  "a a a | local=l0 a=l0 local=l1 a=l0 local=l2 f=g a=l0",
		"for i = i, i, i do f(i) end f(i)":                          "i | for=l0 i=g i=g i=g f=g i=l0 f=g i=g",
		"for i = i, i do end":                                       "i | for=l0 i=g i=g",
		"local i for i = i, i do f(i) end f(i)":                     "i i | local=l0 for=l1 i=l0 i=l0 f=g i=l1 f=g i=l0",
		"for i = 1, 2 do local i = i f(i) end":                      "i i | for=l0 local=l1 i=l0 f=g i=l1",
		"for i = 1, 2 do for j = i, j do f(i, j) end f(i, j) end":   "i j | for=l0 for=l1 i=l0 j=g f=g i=l0 j=l1 f=g i=l0 j=g",
		"for i = 1, 2 do end for i = 1, i do f(i) end":              "i i | for=l0 for=l1 i=g f=g i=l1",
		"for a in a do f(a) end f(a)":                               "a | each=l0 a=g f=g a=l0 f=g a=g",
		"for a, b in a, b do f(a, b) end f(a, b)":                   "a b | each=l0 a=g b=g f=g a=l0 b=l1 f=g a=g b=g",
		"for a, b, c in d do f(c, b, a) end":                        "a b c | each=l0 d=g f=g c=l2 b=l1 a=l0",
		"for a, a in f do f(a) end":                                 "a a | each=l0 f=g f=g a=l1",
		"local a, b for a in b do local a f(a) end f(a)":            "a b a a | local=l0 each=l2 b=l1 local=l3 f=g a=l3 f=g a=l0",
		"for a in f do local a = a end for a in a do f(a) end f(a)": "a a a | each=l0 f=g local=l1 a=l0 each=l2 a=g f=g a=l2 f=g a=g",
	})
}

// P8.1, P8.2: functions, their parameters, what holds in them and behind them; in which order they are numbered.
func TestFunctions(t *testing.T) {
	holds(t, map[string]string{
		"return function() end":                                      "0+ of -1; 0 of 0 | func=l0",
		"return function(...) end":                                   "0+ of -1; 0+ of 0 | func=l0",
		"return function(...) return ... end":                        "0+ of -1; 0+ of 0 | func=l0",
		"return function(a) return a, b end":                         "0+ of -1; 1 of 0 a | func=l0 a=l0 b=g",
		"return function(a, b, ...) return b, a end":                 "0+ of -1; 2+ of 0 a b | func=l0 b=l1 a=l0",
		"return function(a, a) return a end":                         "0+ of -1; 2 of 0 a a | func=l0 a=l1",
		"return function(a) local a = a return a end":                "0+ of -1; 1 of 0 a a | func=l0 local=l1 a=l0 a=l1",
		"x = function(a) local b end x = a, b":                       "0+ of -1; 1 of 0 a b | x=g func=l0 local=l1 x=g a=g b=g",
		"function f(a) return a, f end":                              "0+ of -1; 1 of 0 a | f=g func=l0 a=l0 f=g",
		"function t.a.b(a) return a, t end":                          "0+ of -1; 1 of 0 a | t=g func=l0 a=l0 t=g",
		"function t:m(a) return self, a, m end return self":          "0+ of -1; 2 of 0 self a | t=g func=l0 self=l0 a=l1 m=g self=g",
		"function t:m(self) return self end":                         "0+ of -1; 2 of 0 self self | t=g func=l0 self=l1",
		"local f function f() return f end":                          "0+ of -1 f*; 0 of 0 ^l0 | local=l0 f=l0 func=l0 f=u0",
		"local function f() return f end return f":                   "0+ of -1 f*; 0 of 0 ^l0 | local-func=l0 func=l0 f=u0 f=l0",
		"local f = function() return f end return f":                 "0+ of -1 f; 0 of 0 | local=l0 func=l0 f=g f=l0",
		"local function f(f) return f end return f":                  "0+ of -1 f; 1 of 0 f | local-func=l0 func=l0 f=l0 f=l0",
		"f() local function f() end":                                 "0+ of -1 f; 0 of 0 | f=g local-func=l0 func=l0",
		"do local function f() end end f()":                          "0+ of -1 f; 0 of 0 | local-func=l0 func=l0 f=g",
		"local f local function f() return f end":                    "0+ of -1 f f*; 0 of 0 ^l1 | local=l0 local-func=l1 func=l0 f=u0",
		"local a, b local function f() end":                          "0+ of -1 a b f; 0 of 0 | local=l0 local-func=l2 func=l0",
		"f(function(a) return function(b) end end, function(c) end)": "0+ of -1; 1 of 0 a; 1 of 1 b; 1 of 0 c | f=g func=l0 func=l0 func=l0",
		"local a = function(b) end, function(c) end":                 "0+ of -1 a; 1 of 0 b; 1 of 0 c | local=l0 func=l0 func=l0",
		"local function f(a) f(function(b) end) end f = function(c) end": "0+ of -1 f*; 1 of 0 a ^l0; 1 of 1 b; 1 of 0 c | " +
			"local-func=l0 func=l0 f=u0 func=l0 f=l0 func=l0",
		"for i = function(a) end, function(b) end do f(function(c) end) end": "0+ of -1 i; 1 of 0 a; 1 of 0 b; 1 of 0 c | " +
			"for=l0 func=l0 func=l0 f=g func=l0",
		"repeat f(function(a) end) until function(b) end": "0+ of -1; 1 of 0 a; 1 of 0 b | f=g func=l0 func=l0",
		"return {function(a) end, x = function(b) end, [function(c) end] = function(d) end}": "0+ of -1; 1 of 0 a; 1 of 0 b; 1 of 0 c; 1 of 0 d | " +
			"func=l0 func=l0 func=l0 func=l0",
		"a[function(a) end], b[function(b) end] = function(c) end": "0+ of -1; 1 of 0 a; 1 of 0 b; 1 of 0 c | a=g func=l0 b=g func=l0 func=l0",
	})
}

// P8.1, P8.2: names that lead through functions; which are Captured.
func TestUpvalues(t *testing.T) {
	holds(t, map[string]string{
		"local a, b, c return function() return b end":                    "0+ of -1 a b* c; 0 of 0 ^l1 | local=l0 func=l0 b=u0",
		"local a return function(a) return a end":                         "0+ of -1 a; 1 of 0 a | local=l0 func=l0 a=l0",
		"local a return function() a = 1 end":                             "0+ of -1 a*; 0 of 0 ^l0 | local=l0 func=l0 a=u0",
		"local a return function() local a = a return a end":              "0+ of -1 a*; 0 of 0 a ^l0 | local=l0 func=l0 local=l0 a=u0 a=l0",
		"local a return function() do local a end return a end":           "0+ of -1 a*; 0 of 0 a ^l0 | local=l0 func=l0 local=l0 a=u0",
		"return function() return a end, function() local a end":          "0+ of -1; 0 of 0; 0 of 0 a | func=l0 a=g func=l0 local=l0",
		"x = function() return a end local a":                             "0+ of -1 a; 0 of 0 | x=g func=l0 a=g local=l0",
		"do local a end return function() return a end":                   "0+ of -1 a; 0 of 0 | local=l0 func=l0 a=g",
		"local a, b return function() return b, a, b, a end":              "0+ of -1 a* b*; 0 of 0 ^l1 ^l0 | local=l0 func=l0 b=u0 a=u1 b=u0 a=u1",
		"local a return function() return a end, function() return a end": "0+ of -1 a*; 0 of 0 ^l0; 0 of 0 ^l0 | local=l0 func=l0 a=u0 func=l0 a=u0",
		"local a return function() return function() return a end end":    "0+ of -1 a*; 0 of 0 ^l0; 0 of 1 ^u0 | local=l0 func=l0 func=l0 a=u0",
		"local a return function() return function() return function() return a end end, a end": "0+ of -1 a*; 0 of 0 ^l0; 0 of 1 ^u0; 0 of 2 ^u0 | " +
			"local=l0 func=l0 func=l0 func=l0 a=u0 a=u0",
		"local a, b return function() f(a) return function() return b end end": "0+ of -1 a* b*; 0 of 0 ^l0 ^l1; 0 of 1 ^u1 | " +
			"local=l0 func=l0 f=g a=u0 func=l0 b=u0",
		"local a, b return function() f(function() return b, a, b end) return a end": "0+ of -1 a* b*; 0 of 0 ^l1 ^l0; 0 of 1 ^u0 ^u1 | " +
			"local=l0 func=l0 f=g func=l0 b=u0 a=u1 b=u0 a=u1",
		"return function(p) local c return function() return c, p, c end end": "0+ of -1; 1 of 0 p* c*; 0 of 1 ^l1 ^l0 | " +
			"func=l0 local=l1 func=l0 c=u0 p=u1 c=u0",
		"local a return function(b) return function(c) return function(d) return d, c, b, a end end end": "0+ of -1 a*; 1 of 0 b* ^l0; 1 of 1 c* ^l0 ^u0; 1 of 2 d ^l0 ^u0 ^u1 | " +
			"local=l0 func=l0 func=l0 func=l0 d=l0 c=u0 b=u1 a=u2",
		"local a f(function() return a end) local a return function() return a end": "0+ of -1 a* a*; 0 of 0 ^l0; 0 of 0 ^l1 | " +
			"local=l0 f=g func=l0 a=u0 local=l1 func=l0 a=u0",
		"local a local a return function() return a end": "0+ of -1 a a*; 0 of 0 ^l1 | local=l0 local=l1 func=l0 a=u0",
		"local a return function() f(function() return a end) local a return function() return a end end": "0+ of -1 a*; 0 of 0 a* ^l0; 0 of 1 ^u0; 0 of 1 ^l0 | " +
			"local=l0 func=l0 f=g func=l0 a=u0 local=l0 func=l0 a=u0",
		// Numbers of a local and of an upvalue that are the same say nothing: each leads elsewhere.
		"local a return function(b) f(a) return function() return b, a end end": "0+ of -1 a*; 1 of 0 b* ^l0; 0 of 1 ^l0 ^u0 | " +
			"local=l0 func=l0 f=g a=u0 func=l0 b=u0 a=u1",
		"for i = 1, 2 do f(function() return i end) end":                          "0+ of -1 i*; 0 of 0 ^l0 | for=l0 f=g func=l0 i=u0",
		"for i = 1, f(function() return i end) do end":                            "0+ of -1 i; 0 of 0 | for=l0 f=g func=l0 i=g",
		"for a, b in f do f(function() return b end) end":                         "0+ of -1 a b*; 0 of 0 ^l1 | each=l0 f=g f=g func=l0 b=u0",
		"repeat local a until f(function() return a end)":                         "0+ of -1 a*; 0 of 0 ^l0 | local=l0 f=g func=l0 a=u0",
		"while f(function() return a end) do local a end":                         "0+ of -1 a; 0 of 0 | f=g func=l0 a=g local=l0",
		"local function f() return function() return f end end":                   "0+ of -1 f*; 0 of 0 ^l0; 0 of 1 ^u0 | local-func=l0 func=l0 func=l0 f=u0",
		"local function f() end local function g() f() g() end":                   "0+ of -1 f* g*; 0 of 0; 0 of 0 ^l0 ^l1 | local-func=l0 func=l0 local-func=l1 func=l0 f=u0 g=u1",
		"function t:m() return function() return self end end":                    "0+ of -1; 1 of 0 self*; 0 of 1 ^l0 | t=g func=l0 func=l0 self=u0",
		"local a = 1 local a = function() return a end return a":                  "0+ of -1 a* a; 0 of 0 ^l0 | local=l0 local=l1 func=l0 a=u0 a=l1",
		"local a return function() local b, a return function() return a end end": "0+ of -1 a; 0 of 0 b a*; 0 of 1 ^l1 | local=l0 func=l0 local=l0 func=l0 a=u0",
	})
}

// P8.1: which node declares a local, and which one is a function, wherever they stand.
func TestNodes(t *testing.T) {
	x := parsed(t, "local a, b\nfor i = 1, 2 do\nlocal function f(p, q) end end\nfor k, v in x do end")
	s, err := scope.Resolve(x)
	if err != nil {
		t.Fatal(err)
	}
	var l []string
	for _, f := range s.Fns {
		l = append(l, fmt.Sprint(x.Nodes[f.Node].Kind, "@", x.Nodes[f.Node].Line))
		for _, v := range f.Vars {
			l = append(l, fmt.Sprint(v.Name, " ", words(x.Nodes[v.Node].Kind), "@", x.Nodes[v.Node].Line))
		}
	}
	const want = "18@1, a local@1, b local@1, i for@2, f local-func@3, k each@4, v each@4, 11@3, p func@3, q func@3"
	if is := strings.Join(l, ", "); is != want || s.Fns[0].Node != x.Root {
		t.Errorf("%s\n%s", is, want)
	}
}

// P8.1: of each node the function that it stands in; of an EFunc the one around.
func TestOf(t *testing.T) {
	x := parsed(t, "a = 1\nlocal function f(p)\nb = p; d = function(...)\nc = {...} end\ne = 2 end\ng = 3")
	s, err := scope.Resolve(x)
	if err != nil || len(s.Of) != len(x.Nodes) || len(s.Uses) != len(x.Nodes) {
		t.Fatal(s, err)
	}
	for at, n := range x.Nodes {
		want := map[int]int{1: 0, 2: 0, 3: 1, 4: 2, 5: 1, 6: 0}[n.Line]
		switch {
		case n.Kind == api.EFunc:
			want = n.Line - 2
		case n.Kind == api.SBlock && at != x.Root:
			want = n.Line - 2
		}
		if s.Of[at] != want {
			t.Errorf("kind %d at line %d: %d, not %d", n.Kind, n.Line, s.Of[at], want)
		}
	}
	// A repeat's block and its test stand in the function that the repeat does.
	x = parsed(t, "return function() repeat local a until a end")
	s, _ = scope.Resolve(x)
	for at, n := range x.Nodes {
		want := 1
		if n.Kind == api.SReturn || n.Kind == api.EFunc || at == x.Root {
			want = 0
		}
		if s.Of[at] != want {
			t.Errorf("kind %d: %d, not %d", n.Kind, s.Of[at], want)
		}
	}
}

// P8.1: the Use of each Kind of node, and of those that mean nothing.
func TestUseOfKinds(t *testing.T) {
	const src = "local a = nil, true, false, 1, 's', ..., x, x.y, x[1], x(), x:y(), function() end, 1 + 1, -1, (1), {1, y = 2} " +
		"a = 1 f() do end while a do break end repeat until a if a then end for b = 1, 2 do end for c in a do end local function d() end ::l:: goto l return a"
	x := parsed(t, src)
	s, err := scope.Resolve(x)
	if err != nil {
		t.Fatal(err)
	}
	met := map[int]int{}
	for at, n := range x.Nodes {
		met[n.Kind]++
		want, to := 0, -1
		switch n.Kind {
		case api.EName:
			continue
		case api.SBreak:
			want, to = scope.To, api.SWhile
		case api.SGoto:
			want, to = scope.To, api.SLabel
		case api.SLocal, api.SFor, api.SEach, api.SFunc, api.EFunc:
			want = scope.Local
		}
		if use := s.Uses[at]; use.Kind != want || to >= 0 && x.Nodes[use.Index].Kind != to || want == 0 && use.Index != 0 {
			t.Errorf("kind %d: %v", n.Kind, use)
		}
	}
	for kind := api.ENil; kind <= api.SLabel; kind++ {
		if met[kind] == 0 {
			t.Errorf("no node of kind %d", kind)
		}
	}
	if scope.Global != 1 || scope.Local != 2 || scope.Up != 3 || scope.To != 4 {
		t.Error("the numbers of what a Use is")
	}
}
