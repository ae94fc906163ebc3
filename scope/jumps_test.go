package scope_test

import (
	"strings"
	"testing"
)

// onlyJumps is what got says, less all but where jumps lead, or what is wrong.
func onlyJumps(is string) string {
	_, uses, ok := strings.Cut(is, " |")
	if !ok {
		return is
	}
	var l []string
	for use := range strings.FieldsSeq(uses) {
		if strings.Contains(use, "@") {
			l = append(l, use)
		}
	}
	return strings.Join(l, " ")
}

// jumps holds sources of which only the jumps are told, or what is wrong.
func jumps(t *testing.T, l map[string]string) {
	t.Helper()
	for src, want := range l {
		if is := onlyJumps(got(t, src)); is != want {
			t.Errorf("%q\n%s\n%s", src, is, want)
		}
	}
}

// P8.1: a break leads to the innermost loop around it in its function.
func TestBreaks(t *testing.T) {
	jumps(t, map[string]string{
		"while x do\nbreak end":                                                  "break@2=while@1",
		"repeat\nbreak until x":                                                  "break@2=repeat@1",
		"for i = 1, 2 do\nbreak end":                                             "break@2=for@1",
		"for i in x do\nbreak end":                                               "break@2=each@1",
		"while x do\ndo if x then else\nbreak end end end":                       "break@3=while@1",
		"while x do\nrepeat\nbreak until x end":                                  "break@3=repeat@2",
		"while x do\nrepeat\nuntil x\nbreak end":                                 "break@4=while@1",
		"for i = 1, 2 do\nfor j in x do\nbreak end\nbreak end":                   "break@3=each@2 break@4=for@1",
		"repeat\nfor i = 1, 2 do\nwhile x do break end break end\nbreak until x": "break@3=while@3 break@3=for@2 break@4=repeat@1",
		"while x do break break end":                                             "break@1=while@1 break@1=while@1",
		"return function()\nwhile x do\nbreak end end":                           "break@3=while@2",
		"while x do\nf(function()\nwhile x do\nbreak end end)\nbreak end":        "break@4=while@3 break@5=while@1",
		"break":                      "goto at line 1",
		"\n\nbreak":                  "goto at line 3",
		"do\nbreak end":              "goto at line 2",
		"if x then\nbreak end":       "goto at line 2",
		"while x do end\nbreak":      "goto at line 2",
		"repeat until x\nbreak":      "goto at line 2",
		"for i = 1, 2 do end\nbreak": "goto at line 2",
		"for i in x do end\nbreak":   "goto at line 2",
		"while x do local function f()\nbreak end end":           "goto at line 2",
		"while x do f(function() do\nbreak end end) end":         "goto at line 2",
		"repeat f(function()\nbreak end) until x":                "goto at line 2",
		"repeat until f(function()\nbreak end)":                  "goto at line 2",
		"while f(function()\nbreak end) do end":                  "goto at line 2",
		"for i = 1, f(function()\nbreak end) do end":             "goto at line 2",
		"for i in f(function()\nbreak end) do end":               "goto at line 2",
		"return function()\nbreak end":                           "goto at line 2",
		"while x do f(function() while x do end\nbreak end) end": "goto at line 2",
	})
}

// P8.1: a goto leads to a label of the innermost block around it in its function that has one.
func TestGotos(t *testing.T) {
	jumps(t, map[string]string{
		"::l::\ngoto l":                                       "goto@2=label@1",
		"goto l\n::l::":                                       "goto@1=label@2",
		"goto l\n::l::\nf()":                                  "goto@1=label@2",
		"::l::\ndo goto l end":                                "goto@2=label@1",
		"do goto l end\n::l::":                                "goto@1=label@2",
		"::l::\nwhile x do repeat goto l until x end":         "goto@2=label@1",
		"for i = 1, 2 do for j in x do goto l end end\n::l::": "goto@1=label@2",
		"if x then goto l elseif x then goto m else goto l end\n::l::\n::m::":   "goto@1=label@2 goto@1=label@3 goto@1=label@2",
		"::l:: goto l goto l\ngoto l":                                           "goto@1=label@1 goto@1=label@1 goto@2=label@1",
		"goto m\n::l::\n::m::\ngoto l":                                          "goto@1=label@3 goto@4=label@2",
		"do\n::l::\ngoto l end do\n::l::\ngoto l end":                           "goto@3=label@2 goto@5=label@4",
		"::l::\nf(function()\n::l::\ngoto l end)\ngoto l":                       "goto@4=label@3 goto@5=label@1",
		"return function() goto l\n::l:: end":                                   "goto@1=label@2",
		"while x do if x then goto continue end local y = 1\n::continue::\nend": "goto@1=label@2",
		"for i = 1, 2 do\nfor j = 1, 2 do goto l end\n::l::\nend":               "goto@2=label@3",
		"::a:: ::b::\n::A:: goto A goto a":                                      "goto@2=label@2 goto@2=label@1",
		"local l\n::l::\ngoto l":                                                "goto@3=label@2",
		"goto l":                                                                "goto at line 1",
		"f()\n\ngoto l":                                                         "goto at line 3",
		"::m::\ngoto l":                                                         "goto at line 2",
		"::L::\ngoto l":                                                         "goto at line 2",
		"do ::l:: end\ngoto l":                                                  "goto at line 2",
		"goto l\ndo ::l:: end":                                                  "goto at line 1",
		"do ::l:: end do\ngoto l end":                                           "goto at line 2",
		"while x do ::l:: end\ngoto l":                                          "goto at line 2",
		"repeat ::l:: until x\ngoto l":                                          "goto at line 2",
		"if x then ::l:: else\ngoto l end":                                      "goto at line 2",
		"if x then\ngoto l else ::l:: end":                                      "goto at line 2",
		"::l:: local function f()\ngoto l end":                                  "goto at line 2",
		"local function f()\ngoto l end ::l::":                                  "goto at line 2",
		"local function f() ::l:: end\ngoto l":                                  "goto at line 2",
		"::l:: f(function() do\ngoto l end end)":                                "goto at line 2",
		"repeat ::l:: until f(function()\ngoto l end)":                          "goto at line 2",
		"f(function() ::l:: end, function()\ngoto l end)":                       "goto at line 2",
		"::l:: for i = 1, f(function()\ngoto l end) do end":                     "goto at line 2",
	})
}

// P8.1: a goto that leads to where a local holds that didn't hold ahead.
func TestJumps(t *testing.T) {
	jumps(t, map[string]string{
		"goto l local x ::l:: f()":                                              "jump at line 1",
		"f()\ngoto l\nlocal x\n::l::\nf()":                                      "jump at line 2",
		"goto l local x ::l:: return":                                           "jump at line 1",
		"goto l local x ::l:: do end":                                           "jump at line 1",
		"goto l local x ::l:: local y":                                          "jump at line 1",
		"goto l local x ::l:: ::m:: f()":                                        "jump at line 1",
		"goto l local x ::l:: f() ::m::":                                        "jump at line 1",
		"goto l f() local x f() ::l:: f()":                                      "jump at line 1",
		"goto l local function f() end ::l:: f()":                               "jump at line 1",
		"local y goto l local x ::l:: f()":                                      "jump at line 1",
		"goto l local x, y, z ::l:: f()":                                        "jump at line 1",
		"goto l local x local x ::l:: f()":                                      "jump at line 1",
		"do\ngoto l end local x ::l:: f()":                                      "jump at line 2",
		"while x do repeat if x then\ngoto l end until x end local x ::l:: f()": "jump at line 2",
		"do local y goto l end local x ::l:: f()":                               "jump at line 1",
		"do goto l local x ::l:: f() end":                                       "jump at line 1",
		"while x do goto l local x ::l:: f() end":                               "jump at line 1",
		"return function()\ngoto l local x ::l:: f() end":                       "jump at line 2",
		"repeat goto l local x ::l:: until x":                                   "jump at line 1",
		"repeat goto l local x ::l:: ::m:: until x":                             "jump at line 1",
		"repeat goto l local function f() end ::l:: until x":                    "jump at line 1",
		"repeat goto l local x ::l:: f() until x":                               "jump at line 1",
		"repeat do\ngoto l end local x ::l:: until x":                           "jump at line 2",
		"goto l goto m local x ::l:: f() ::m::":                                 "jump at line 1",
		"goto l\ngoto m\n::l:: local x ::m:: f()":                               "jump at line 2",
		// Nothing but labels behind it.
		"goto l local x\n::l::":                                  "goto@1=label@2",
		"goto l local x\n::l:: ;":                                "goto@1=label@2",
		"goto l local x\n::l:: ::m::":                            "goto@1=label@2",
		"goto m local x ::l::\n::m::":                            "goto@1=label@2",
		"goto l local x f()\n::l:: ::m:: ::n::":                  "goto@1=label@2",
		"do goto l local x\n::l:: end f()":                       "goto@1=label@2",
		"do goto l end local x\n::l::":                           "goto@1=label@2",
		"goto l local function f() end\n::l::":                   "goto@1=label@2",
		"return function() goto l local x\n::l:: end":            "goto@1=label@2",
		"repeat do goto l local x\n::l:: end until x":            "goto@1=label@2",
		"repeat while x do goto l local x\n::l:: end until x":    "goto@1=label@2",
		"repeat f(function() goto l local x\n::l:: end) until x": "goto@1=label@2",
		"repeat until f(function() goto l local x\n::l:: end)":   "goto@1=label@2",
		"while x do goto l local x\n::l:: end":                   "goto@1=label@2",
		// No local between.
		"local x goto l\n::l:: f()":                                   "goto@1=label@2",
		"goto l\n::l:: local x f()":                                   "goto@1=label@2",
		"goto l x = 1 function f() end\n::l:: f()":                    "goto@1=label@2",
		"goto l do local x end\n::l:: f()":                            "goto@1=label@2",
		"goto l for i = 1, 2 do local x end\n::l:: f()":               "goto@1=label@2",
		"goto l for i in x do end\n::l:: f()":                         "goto@1=label@2",
		"goto l f(function() local x end)\n::l:: f()":                 "goto@1=label@2",
		"goto l repeat local x until x\n::l:: f()":                    "goto@1=label@2",
		"do goto l local x end\n::l:: f()":                            "goto@1=label@2",
		"do local x goto l end\n::l:: f()":                            "goto@1=label@2",
		"repeat goto l\n::l:: until x":                                "goto@1=label@2",
		"repeat local x goto l\n::l:: until x":                        "goto@1=label@2",
		"repeat local x do local y goto l local z end\n::l:: until x": "goto@1=label@2",
		// Backwards.
		"::l:: local x\ngoto l local y":                      "goto@2=label@1",
		"local x\n::l:: goto l":                              "goto@2=label@2",
		"::l:: local x do local y\ngoto l end f()":           "goto@2=label@1",
		"repeat ::l:: local x\ngoto l until x":               "goto@2=label@1",
		"local x local y\n::l:: f() local z f()\ngoto l f()": "goto@3=label@2",
		"::l:: local function f() end\ngoto l":               "goto@2=label@1",
		"goto l\n::m:: local x f() goto m\n::l::":            "goto@1=label@3 goto@2=label@2",
	})
}

// P8.1: a label that is there already: in its block, in one around, in a function within, in a block beside.
func TestLabels(t *testing.T) {
	jumps(t, map[string]string{
		"::l::":                                     "",
		"::l:: ::m::":                               "",
		"::l:: ::L::":                               "",
		"::l::\n::l::":                              "label at line 2",
		"::l::\nf()\n::m::\n::l::":                  "label at line 4",
		"\n::a::\n::b::\n::b::\n::a::":              "label at line 4",
		"::a::\n::b::\n::a::\n::b::":                "label at line 3",
		"::a::\n::a::\n::a::":                       "label at line 2",
		"::l:: do\n::l:: end":                       "label at line 2",
		"do\n::l:: end\n::l::":                      "label at line 2",
		"do\n::a::\n::b:: end ::b::":                "label at line 3",
		"do\n::a::\n::b:: end ::b:: ::a::":          "label at line 2",
		"::l:: do do\n::l:: end end":                "label at line 2",
		"do do\n::l:: end end ::l::":                "label at line 2",
		"do ::l:: do do\n::l:: end end end":         "label at line 2",
		"::l:: while x do\n::l:: end":               "label at line 2",
		"::l:: repeat\n::l:: until x":               "label at line 2",
		"::l:: for i = 1, 2 do\n::l:: end":          "label at line 2",
		"::l:: for i in x do\n::l:: end":            "label at line 2",
		"::l:: if x then\n::l:: end":                "label at line 2",
		"::l:: if x then elseif x then\n::l:: end":  "label at line 2",
		"::l:: if x then else\n::l:: end":           "label at line 2",
		"return function() ::l:: do\n::l:: end end": "label at line 2",
		"return function() ::l::\n::l:: end":        "label at line 2",
		"::l:: f(function() do ::m:: end do\n::m:: ::l:: do\n::l:: end end end)": "label at line 3",
		"do ::l:: end do ::l:: end":                                            "",
		"do ::l:: end do do ::l:: end end":                                     "",
		"if x then ::l:: elseif x then ::l:: else ::l:: end":                   "",
		"while x do ::l:: end repeat ::l:: until x":                            "",
		"::l:: f(function() ::l:: end)":                                        "",
		"f(function() ::l:: end) ::l::":                                        "",
		"::l:: local function f() do ::l:: end end":                            "",
		"::l:: while x do f(function() ::l:: f(function() ::l:: end) end) end": "",
		"f(function() ::l:: end, function() ::l:: end)":                        "",
		"repeat ::l:: until f(function() ::l:: end)":                           "",
	})
}

// P8.1: ... in functions that take many, that don't, and at the root.
func TestMany(t *testing.T) {
	jumps(t, map[string]string{
		"return ...":                                "",
		"do while ... do f(...) end end":            "",
		"return function(...) return ... end":       "",
		"return function(a, ...) do f{...} end end": "",
		"return function(...) local a = ... return function(...) return ... end, ... end":         "",
		"return function()\nreturn ... end":                                                       "vararg at line 2",
		"return function(a)\ndo f(...) end end":                                                   "vararg at line 2",
		"return function(...) f(...) return function()\nreturn ... end end":                       "vararg at line 2",
		"local function f()\nlocal a = (...) end":                                                 "vararg at line 2",
		"function t:m(a)\nreturn {...} end":                                                       "vararg at line 2",
		"return ..., function(...) end, function()\nreturn ..., function(...) return ... end end": "vararg at line 2",
		"f(function() return function(...)\nreturn ... end,\n... end)":                            "vararg at line 3",
	})
}
