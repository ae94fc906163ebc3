package words_test

import (
	"math"
	"strings"
	"testing"

	"selkie/api"
	"selkie/value"
	"selkie/words"
)

var (
	none     = api.Value{}
	no       = api.Value{Kind: api.Bool}
	yes      = api.Value{Kind: api.Bool, N: 1}
	one      = api.Value{Kind: api.Int, N: 1}
	ten      = api.Value{Kind: api.Str, S: "10"}
	text     = api.Value{Kind: api.Str, S: "a"}
	table    = api.Value{Kind: api.Table}
	function = api.Value{Kind: api.Func}
	builtin  = api.Value{Kind: api.Builtin}
	thread   = api.Value{Kind: api.Thread}
	strange  = api.Value{Kind: 8}
)

// row is what is said, and what it should be.
type row struct{ said, want string }

func check(t *testing.T, rows ...row) {
	t.Helper()
	for i, x := range rows {
		if x.said != x.want {
			t.Errorf("row %d: %q, not %q", i, x.said, x.want)
		}
	}
}

// P10.1
func TestIndexCallLen(t *testing.T) {
	check(t,
		row{words.Index(none), "attempt to index a nil value"},
		row{words.Index(no), "attempt to index a boolean value"},
		row{words.Index(yes), "attempt to index a boolean value"},
		row{words.Index(one), "attempt to index a number value"},
		row{words.Index(text), "attempt to index a string value"},
		row{words.Index(table), "attempt to index a table value"},
		row{words.Index(function), "attempt to index a function value"},
		row{words.Index(builtin), "attempt to index a function value"},
		row{words.Index(thread), "attempt to index a thread value"},
		row{words.Index(strange), "attempt to index a  value"},
		row{words.Call(none), "attempt to call a nil value"},
		row{words.Call(ten), "attempt to call a string value"},
		row{words.Call(builtin), "attempt to call a function value"},
		row{words.Call(strange), "attempt to call a  value"},
		row{words.Len(none), "attempt to get length of a nil value"},
		row{words.Len(thread), "attempt to get length of a thread value"},
		row{words.Len(strange), "attempt to get length of a  value"},
	)
	for _, x := range samples() {
		if got, want := words.Index(x.v), "attempt to index a "+x.word+" value"; got != want {
			t.Errorf("Index(%+v): %q, not %q", x.v, got, want)
		}
		if got, want := words.Call(x.v), "attempt to call a "+x.word+" value"; got != want {
			t.Errorf("Call(%+v): %q, not %q", x.v, got, want)
		}
		if got, want := words.Len(x.v), "attempt to get length of a "+x.word+" value"; got != want {
			t.Errorf("Len(%+v): %q, not %q", x.v, got, want)
		}
	}
}

// P10.1
func TestArith(t *testing.T) {
	check(t,
		row{words.Arith(none, one), "attempt to perform arithmetic on a nil value"},
		row{words.Arith(one, none), "attempt to perform arithmetic on a nil value"},
		row{words.Arith(none, table), "attempt to perform arithmetic on a nil value"},
		row{words.Arith(text, table), "attempt to perform arithmetic on a string value"},
		row{words.Arith(ten, table), "attempt to perform arithmetic on a table value"},
		row{words.Arith(table, ten), "attempt to perform arithmetic on a table value"},
		row{words.Arith(ten, text), "attempt to perform arithmetic on a string value"},
		row{words.Arith(yes, one), "attempt to perform arithmetic on a boolean value"},
		row{words.Arith(one, function), "attempt to perform arithmetic on a function value"},
		row{words.Arith(builtin, thread), "attempt to perform arithmetic on a function value"},
		// where neither is to blame, the words still say b's
		row{words.Arith(one, ten), "attempt to perform arithmetic on a string value"},
		row{words.Arith(ten, one), "attempt to perform arithmetic on a number value"},
		row{words.Arith(strange, one), "attempt to perform arithmetic on a  value"},
		row{words.Arith(one, strange), "attempt to perform arithmetic on a  value"},
	)
	eachPair(func(a, b sample) {
		want := "attempt to perform arithmetic on a " + blamed(a, b, a.isNumber).word + " value"
		if got := words.Arith(a.v, b.v); got != want {
			t.Errorf("Arith(%+v, %+v): %q, not %q", a.v, b.v, got, want)
		}
	})
}

// P10.1
func TestConcat(t *testing.T) {
	check(t,
		row{words.Concat(none, text), "attempt to concatenate a nil value"},
		row{words.Concat(text, none), "attempt to concatenate a nil value"},
		row{words.Concat(none, table), "attempt to concatenate a nil value"},
		row{words.Concat(one, table), "attempt to concatenate a table value"},
		row{words.Concat(table, one), "attempt to concatenate a table value"},
		row{words.Concat(text, yes), "attempt to concatenate a boolean value"},
		row{words.Concat(builtin, none), "attempt to concatenate a function value"},
		row{words.Concat(one, thread), "attempt to concatenate a thread value"},
		// where neither is to blame, the words still say b's
		row{words.Concat(one, text), "attempt to concatenate a string value"},
		row{words.Concat(text, one), "attempt to concatenate a number value"},
		row{words.Concat(strange, text), "attempt to concatenate a  value"},
		row{words.Concat(text, strange), "attempt to concatenate a  value"},
	)
	eachPair(func(a, b sample) {
		want := "attempt to concatenate a " + blamed(a, b, a.isText).word + " value"
		if got := words.Concat(a.v, b.v); got != want {
			t.Errorf("Concat(%+v, %+v): %q, not %q", a.v, b.v, got, want)
		}
	})
}

// P10.2
func TestCompare(t *testing.T) {
	check(t,
		row{words.Compare(none, none), "attempt to compare two nil values"},
		row{words.Compare(no, yes), "attempt to compare two boolean values"},
		row{words.Compare(one, one), "attempt to compare two number values"},
		row{words.Compare(text, ten), "attempt to compare two string values"},
		row{words.Compare(table, table), "attempt to compare two table values"},
		row{words.Compare(function, function), "attempt to compare two function values"},
		row{words.Compare(function, builtin), "attempt to compare two function values"},
		row{words.Compare(builtin, function), "attempt to compare two function values"},
		row{words.Compare(thread, thread), "attempt to compare two thread values"},
		row{words.Compare(strange, api.Value{Kind: -1}), "attempt to compare two  values"},
		row{words.Compare(one, text), "attempt to compare number with string"},
		row{words.Compare(ten, one), "attempt to compare string with number"},
		row{words.Compare(none, table), "attempt to compare nil with table"},
		row{words.Compare(builtin, thread), "attempt to compare function with thread"},
		row{words.Compare(yes, none), "attempt to compare boolean with nil"},
		row{words.Compare(strange, one), "attempt to compare  with number"},
		row{words.Compare(one, strange), "attempt to compare number with "},
	)
	eachPair(func(a, b sample) {
		want := "attempt to compare " + a.word + " with " + b.word
		if a.word == b.word {
			want = "attempt to compare two " + a.word + " values"
		}
		if got := words.Compare(a.v, b.v); got != want {
			t.Errorf("Compare(%+v, %+v): %q, not %q", a.v, b.v, got, want)
		}
	})
}

// strangeInts are no operators, and no numbers that For knows.
func strangeInts() []int {
	return []int{-1, -2, -3, -5, -128, 24, 25, 255, 256, 256 + api.Mod, 257, 1 << 16, 1 << 32, 1<<32 + 1, 1<<32 + api.Mod, math.MaxInt32, math.MinInt32, math.MaxInt, math.MinInt}
}

// P10.2
func TestZero(t *testing.T) {
	check(t,
		row{words.Zero(api.Mod), "attempt to perform 'n%%0'"},
		row{words.Zero(api.Idiv), "attempt to perform 'n//0'"},
	)
	ops := strangeInts()
	for op := range api.Len + 1 {
		ops = append(ops, op)
	}
	for _, op := range ops {
		if got := words.Zero(op); op != api.Mod && got != "attempt to perform 'n//0'" {
			t.Errorf("Zero(%d): %q", op, got)
		}
	}
}

// P10.2
func TestFor(t *testing.T) {
	check(t,
		row{words.For(0), "'for' initial value must be a number"},
		row{words.For(1), "'for' limit must be a number"},
		row{words.For(2), "'for' step must be a number"},
		row{words.For(3), "'for' step is zero"},
	)
	for _, which := range append(strangeInts(), 4, 5, 6, 7, 8) {
		if got := words.For(which); got != "" {
			t.Errorf("For(%d): %q", which, got)
		}
	}
}

// P10.3
func TestArg(t *testing.T) {
	check(t,
		row{words.Arg(1, "print"), "bad argument #1 to 'print'"},
		row{words.Arg(2, "sub"), "bad argument #2 to 'sub'"},
		row{words.Arg(0, ""), "bad argument #0 to ''"},
		row{words.Arg(-1, "x"), "bad argument #-1 to 'x'"},
	)
	numbers := map[int]string{
		0: "0", 1: "1", 2: "2", 9: "9", 10: "10", 11: "11", 100: "100", 907: "907", 200: "200", 201: "201", -1: "-1", -2: "-2", -10: "-10", 1 << 31: "2147483648", 1 << 32: "4294967296",
		math.MaxInt: "9223372036854775807", math.MinInt: "-9223372036854775808", math.MaxInt - 1: "9223372036854775806", math.MinInt + 1: "-9223372036854775807",
	}
	for n, digits := range numbers {
		for _, of := range []string{"", " ", "sub", "string.sub", "'", "''", "a'b", "%d", "%s%%", "#1", "\n", "\x00", "\xff\xfe", "é", strings.Repeat("y", api.MaxStr)} {
			if got, want := words.Arg(n, of), "bad argument #"+digits+" to '"+of+"'"; got != want {
				t.Errorf("Arg(%d, %q): %q, not %q", n, of, got, want)
			}
		}
	}
}

// fields are the words that Field knows, and what it says of them.
func fields() map[string]string {
	return map[string]string{
		"nil":     "table index is nil",
		"dead":    "cannot resume dead coroutine",
		"self":    "cannot resume non-suspended coroutine",
		"running": "cannot resume non-suspended coroutine",
		"yield":   "attempt to yield from outside a coroutine",
		"chain":   "'__index' chain too long; possibly a loop",
		"close":   "cannot close a running coroutine",
		"next":    "invalid key to 'next'",
		"long":    "too many results",
		"set":     "wrong number of arguments",
	}
}

// P10.3
func TestField(t *testing.T) {
	for what, want := range fields() {
		if got := words.Field(what); got != want {
			t.Errorf("Field(%q): %q, not %q", what, got, want)
		}
	}
}

// near are texts that differ a little from one: by a byte more or less, by great letters.
func near(s string) []string {
	l := []string{strings.ToUpper(s), strings.ToUpper(s[:1]) + s[1:], s + s}
	for _, more := range []string{" ", "\x00", "s", "'", ";", "\n"} {
		l = append(l, s+more, more+s)
	}
	for i := range len(s) {
		l = append(l, s[:i], s[i+1:], s[:i]+s[i+1:], s[:i]+"\xff"+s[i+1:])
	}
	return l
}

// P10.3
func TestFieldOfOtherWords(t *testing.T) {
	known := fields()
	l := []string{"", " ", "x", "0", "true", "false", "normal", "suspended", "index", "call", "resume", "number", "arg", "for", "zero", "\x00", "\xff", strings.Repeat("y", api.MaxStr)}
	for what, said := range known {
		l = append(append(l, said), near(what)...)
	}
	for _, what := range l {
		if _, ok := known[what]; ok {
			continue
		}
		if got := words.Field(what); got != "" {
			t.Errorf("Field(%q): %q", what, got)
		}
	}
}

// P10.4
func TestError(t *testing.T) {
	check(t,
		row{words.Error(text), "a"},
		row{words.Error(ten), "10"},
		row{words.Error(api.Value{Kind: api.Str}), ""},
		row{words.Error(api.Value{Kind: api.Str, S: " -0x10 "}), " -0x10 "},
		row{words.Error(api.Value{Kind: api.Str, N: 5, S: "line\nline"}), "line\nline"},
		row{words.Error(one), "1"},
		row{words.Error(api.Value{Kind: api.Int, N: -7, S: "x"}), "-7"},
		row{words.Error(api.Value{Kind: api.Int, N: math.MinInt64}), "-9223372036854775808"},
		row{words.Error(none), "(error object is a nil value)"},
		row{words.Error(api.Value{N: 3, S: "x"}), "(error object is a nil value)"},
		row{words.Error(no), "(error object is a boolean value)"},
		row{words.Error(yes), "(error object is a boolean value)"},
		row{words.Error(api.Value{Kind: api.Bool, N: 7}), "(error object is a boolean value)"},
		row{words.Error(table), "(error object is a table value)"},
		row{words.Error(function), "(error object is a function value)"},
		row{words.Error(builtin), "(error object is a function value)"},
		row{words.Error(thread), "(error object is a thread value)"},
		row{words.Error(strange), "(error object is a  value)"},
	)
	for _, x := range samples() {
		if got := words.Error(x.v); got != x.shown {
			t.Errorf("Error(%+v): %q, not %q", x.v, got, x.shown)
		}
	}
}

// names says whether one of the words stands in a text, as a word of its own.
func names(said string, list ...string) bool {
	for _, word := range list {
		if word != "" && strings.Contains(" "+said+" ", " "+word+" ") {
			return true
		}
	}
	return false
}

// P10.5
func TestWhatIsSaidNamesAWord(t *testing.T) {
	for _, x := range samples() {
		word := value.Type(x.v)
		if word == "" {
			continue
		}
		for i, said := range []string{words.Index(x.v), words.Call(x.v), words.Len(x.v), words.Arith(x.v, x.v), words.Concat(x.v, x.v), words.Compare(x.v, x.v)} {
			if said == "" || !names(said, word) {
				t.Errorf("%+v: said %d is %q, without %q", x.v, i, said, word)
			}
		}
		if said := words.Error(x.v); !x.isText && !names(said, word) {
			t.Errorf("Error(%+v) is %q, without %q", x.v, said, word)
		}
	}
}

// P10.5
func TestWhatIsSaidOfTwoNamesAWordOfTheirs(t *testing.T) {
	eachPair(func(a, b sample) {
		left, right := value.Type(a.v), value.Type(b.v)
		if left == "" || right == "" {
			return
		}
		for i, said := range []string{words.Arith(a.v, b.v), words.Concat(a.v, b.v), words.Compare(a.v, b.v)} {
			if said == "" || !names(said, left, right) {
				t.Errorf("%+v and %+v: said %d is %q", a.v, b.v, i, said)
			}
		}
	})
}

// P10.1, P10.2, P10.3, P10.4
func TestExamples(t *testing.T) {
	check(t,
		row{words.Arith(none, one), "attempt to perform arithmetic on a nil value"},
		row{words.Compare(one, text), "attempt to compare number with string"},
		row{words.Arg(2, "sub"), "bad argument #2 to 'sub'"},
		row{words.Error(api.Value{Kind: api.Int, N: 7}), "7"},
		row{words.Error(table), "(error object is a table value)"},
	)
}
