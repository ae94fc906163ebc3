package need_test

import (
	"fmt"
	"slices"
	"strings"
	"testing"

	"selkie/api"
	"selkie/need"
	"selkie/parse"
)

func parsed(t *testing.T, src string) api.Tree {
	t.Helper()
	x, err := parse.Parse(src)
	if err != nil {
		t.Fatalf("%.300q: %v", src, err)
	}
	return x
}

// got is what Need says of a source: what its functions need, or what is wrong of it.
func got(t *testing.T, src string) string {
	t.Helper()
	l, wrong := check(t, parsed(t, src))
	if wrong.err != api.OK {
		return fmt.Sprintf("%v at line %d", wrong.err, wrong.line)
	}
	return strings.Trim(fmt.Sprint(l), "[]")
}

func holds(t *testing.T, l map[string]string) {
	t.Helper()
	for src, want := range l {
		if is := got(t, src); is != want {
			t.Errorf("%.300q: %.300s, not %s", src, is, want)
		}
	}
}

// P9.1: the chapter's examples.
func TestExamples(t *testing.T) {
	holds(t, map[string]string{"return f(1, g(2, 3))": "5", "local a, b = 1": "3"})
}

// P9.1: ordinary sources without functions.
func TestSources(t *testing.T) {
	holds(t, map[string]string{
		"":                                    "0",
		";":                                   "0",
		"return":                              "0",
		"return nil":                          "1",
		"return ...":                          "1",
		"return 1, 2, 3":                      "3",
		"local a":                             "1",
		"local a = 1":                         "2",
		"local a, b":                          "2",
		"local a = 1, 2, 3":                   "4",
		"local a local b local c":             "3",
		"local a = 1 local b = 2 local c = 3": "4",
		"local a return a":                    "2",
		"x = 1":                               "1",
		"x, y = 1, 2":                         "2",
		"x, y = y, x":                         "2",
		"t.a = 1":                             "3",
		"t.a, t.b = 1":                        "5",
		"t.a, x, t.b = 1, 2":                  "6",
		"t[f(1, 2)] = 1":                      "4",
		"t.a.b = 1":                           "3",
		"t[i][j] = u[i][j]":                   "4",
		"return a + b":                        "2",
		"return a + b + c + d":                "2",
		"return a + (b + (c + d))":            "4",
		"return a .. b .. c .. d":             "4",
		"return a and b and c":                "1",
		"return a and b + c":                  "2",
		"return a + (b or c)":                 "2",
		"return a + (b or c + d)":             "3",
		"return (a or b) + c":                 "2",
		"return a == b, a < b":                "3",
		"return not - # ~ a":                  "1",
		"return -(a + b)":                     "2",
		"return t.a.b.c":                      "2",
		"return t[t[t[1]]]":                   "4",
		"f()":                                 "1",
		"f(1)":                                "2",
		"f(1, 2, 3)":                          "4",
		"f(...)":                              "2",
		"f()()()":                             "1",
		"f(1)(2)(3)":                          "2",
		"f(g(h()))":                           "3",
		"f(g(h(1)))":                          "4",
		"f(g(1, 2, 3), 4)":                    "5",
		"f(4, g(1, 2, 3))":                    "6",
		"f 'a'":                               "2",
		"f {}":                                "2",
		"f {1}":                               "3",
		"f {a = 1}":                           "4",
		"o:m()":                               "2",
		"o:m(1)":                              "3",
		"o:m(o:m(o:m()))":                     "6",
		"o:m():m():m()":                       "2",
		"t.o:m(1)":                            "3",
		"return {}":                           "1",
		"return {1}":                          "2",
		"return {a = 1, b = 2, 3}":            "3",
		"return {{{}}}":                       "3",
		"return {a = {b = {}}}":               "5",
		"return {[a + b] = 1}":                "3",
		"return {[{a + b}] = 1}":              "4",
		"return {f(1, 2, 3)}":                 "5",
		"return {...}":                        "2",
		"while a do f(1) end":                 "2",
		"while f(1) do local a end":           "3",
		"repeat local a until a":              "2",
		"if a then f() elseif b then g(1) else end": "2",
		"for i = 1, 2 do end":                       "4",
		"for i = 1, 2 do f(i) end":                  "6",
		"for i = 1, 2 do local a = i end":           "6",
		"for i = 1, 2 do for j = 1, 2 do end end":   "8",
		"for i = f(1, 2), 2 do end":                 "4",
		"for i = f(1, 2, 3), 2 do end":              "5",
		"for k in f do end":                         "7",
		"for k, v in f(t) do g(k, v) end":           "8",
		"for k, v in f, t, nil do g(k, v, 1) end":   "9",
		"for k in a, b, c, d, e, f do end":          "7",
		"for k in a, b, c, d, e, f, g do end":       "8",
		"do local a end do local b end":             "2",
		"do do do f(1) end end end":                 "2",
		"::l:: goto l":                              "0",
		"while a do break end":                      "1",
		"local t = {} t.x = 1 return t.x":           "4",
		"local t = {} for i = 1, 3 do t[i] = i end": "8",
	})
}

// P9.1: functions within functions: what each needs alone, and one place in the function around.
func TestFunctions(t *testing.T) {
	holds(t, map[string]string{
		"return function() end":                                               "1 0",
		"return function(a, b, c) end":                                        "1 3",
		"return function(a, b, ...) return ... end":                           "1 3",
		"return function() local a, b, c = 1 end":                             "1 4",
		"return function(a) f(a, a, a) end":                                   "1 5",
		"local a, b return function(c) return a, b, c end":                    "3 4",
		"f(function() return 1, 2, 3, 4, 5, 6 end)":                           "2 6",
		"f(1, function() return 1, 2, 3, 4, 5, 6 end)":                        "3 6",
		"f(1, function() end, 2)":                                             "4 0",
		"x = function() end":                                                  "1 0",
		"t.x = function() return 1, 2 end":                                    "3 2",
		"function f() g(1, 2) end":                                            "1 3",
		"function t.f() g(1, 2) end":                                          "3 3",
		"function t.u.f(a) end":                                               "3 1",
		"function t:f() return self end":                                      "3 2",
		"function t:f(a) return self, a end":                                  "3 4",
		"local function f() end":                                              "2 0",
		"local function f(a, b) return a end":                                 "2 3",
		"local function f() return f(1, 2, 3) end":                            "2 4",
		"local a = function() end":                                            "2 0",
		"return {function() f(1) end, a = function(a, b) end}":                "3 2 2",
		"return function() return function() return 1, 2 end end":             "1 1 2",
		"return function() return function(a, b, c) end, 2 end":               "1 2 3",
		"f(function(a) end, function(b, c) end)":                              "3 1 2",
		"f(function(a, b, c) return function(d) end end, 2)":                  "3 4 1",
		"f(function() local a g(function(d) end) end, function(b, c) end)":    "3 3 1 2",
		"local f = function() for i = 1, 2 do end end return f":               "2 4",
		"for i = 1, 2 do local function f(a, b) return i end end":             "6 3",
		"while f(function() end) do local a end":                              "3 0",
		"if x then return function(a) end else return function(b, c) end end": "1 1 2",
		"return (function(...) return f(...) end)(1)":                         "2 2",
		"local a do local b f(function() return a, b, c end) end":             "4 3",
		"return function() for k in f do end end, function() end":             "2 7 0",
		"return function() end == function(a) end":                            "2 0 1",
	})
	// As many as there may be, each within the one ahead of it, or one behind the other.
	const many = 30
	deep, row := "", ""
	for i := range many {
		deep += "return function(" + strings.Join(slices.Repeat([]string{"a"}, i%5), ",") + ") "
		row += "x = function(" + strings.Join(slices.Repeat([]string{"a"}, i%5), ",") + ") f(1, 2) end "
	}
	is := got(t, deep+strings.Repeat(" end", many))
	want := "1"
	for i := range many - 1 {
		want += fmt.Sprint(" ", i%5+1)
	}
	if want += fmt.Sprint(" ", (many-1)%5); is != want {
		t.Errorf("%s, not %s", is, want)
	}
	is, want = got(t, row), "1"
	for i := range many {
		want += fmt.Sprint(" ", i%5+3)
	}
	if is != want {
		t.Errorf("%s, not %s", is, want)
	}
}

// P9.1: locals count, wherever in the function they are declared, whether they hold still or not.
func TestLocals(t *testing.T) {
	holds(t, map[string]string{
		"local a local a local a":                                               "3",
		"local a, a, a":                                                         "3",
		"do local a end local b f(b)":                                           "4",
		"do local a do local b end local c end":                                 "3",
		"while x do local a, b end":                                             "3",
		"repeat local a, b until a":                                             "3",
		"if x then local a elseif x then local b else local c end":              "4",
		"for i = 1, 2 do local a end":                                           "5",
		"for i = 1, 2 do end for i = 1, 2 do end":                               "5",
		"for i, j, k in f do end":                                               "9",
		"for i, j, k in f do local l = 1 end":                                   "10",
		"local function f() end local function g() end":                         "3 0 0",
		"return function(a, b) local c do local d, e end end":                   "1 5",
		"return function(a, b) for i = 1, 2 do local c = a end end":             "1 8",
		"return function(a) local a local a = a end":                            "1 4",
		"local a, b, c return function(d) local e return a end":                 "4 3",
		"local a f(function(b) local c g(function(d) local e end) end) local h": "4 4 2",
	})
}

// P9.1: where a name stands, and whether it is a local or an upvalue, says nothing.
func TestNames(t *testing.T) {
	for _, s := range []string{"x = 1", "return x + x", "x.y = x", "f(x)", "x(x)", "x:m(x)", "x, y.z = 1, x", "return {x, x = x, [x] = x}", "for i = x, x, x do x = x end", "for k in x, x do x.a = x end"} {
		l, _ := check(t, parsed(t, s))
		local, _ := check(t, parsed(t, "local x "+s))
		up, _ := check(t, parsed(t, "local x f(function() "+s+" end)"))
		if local[0] != l[0]+1 || len(up) != 2 || up[0] != 3 || up[1] != l[0] {
			t.Errorf("%q: %v, %v, %v", s, l, local, up)
		}
	}
}

// P9.1: lines and where nodes stand say nothing of what is needed.
func TestElsewhere(t *testing.T) {
	x := parsed(t, "local a, b = f(1, g(2, 3)) return function(c) for i = 1, a do t[i], u = o:m(i) end end, {1, x = function() end}")
	l, _ := check(t, x)
	y := turned(x)
	for i := range y.Nodes {
		y.Nodes[i].Line = 1 + i%7
	}
	m, err := need.Need(y)
	if err != nil || !slices.Equal(l, m) || !slices.Equal(l, []int{7, 10, 0}) {
		t.Error(l, m, err)
	}
	check(t, y)
}
