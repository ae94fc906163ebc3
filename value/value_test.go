package value_test

import (
	"math"
	"strings"
	"testing"

	"selkie/api"
	"selkie/value"
)

// group is one value in several spellings, the first its Own, and what is told of it.
type group struct {
	name        string
	spellings   []api.Value
	truth       bool
	kind, print string
}

func groups() []group {
	junk := func(kind int, n int64) []api.Value {
		return []api.Value{{Kind: kind, N: n}, {Kind: kind, N: n, S: "x"}, {Kind: kind, N: n, S: "\x00"}}
	}
	number := func(n int64, print string) group {
		return group{"number " + print, junk(api.Int, n), true, "number", print}
	}
	text := func(s string) group {
		l := []api.Value{{Kind: api.Str, S: s}, {Kind: api.Str, N: 1, S: s}, {Kind: api.Str, N: math.MinInt64, S: s}}
		return group{"string " + s, l, true, "string", s}
	}
	l := []group{
		{"nil", []api.Value{{}, {N: 1}, {S: "x"}, {N: -1, S: "nil"}}, false, "nil", "nil"},
		{"false", junk(api.Bool, 0), false, "boolean", "false"},
		{"true", []api.Value{
			{Kind: api.Bool, N: 1}, {Kind: api.Bool, N: 1, S: "false"}, {Kind: api.Bool, N: 2}, {Kind: api.Bool, N: -1, S: "x"},
			{Kind: api.Bool, N: math.MinInt64}, {Kind: api.Bool, N: math.MaxInt64}, {Kind: api.Bool, N: 1 << 32},
		}, true, "boolean", "true"},
		number(0, "0"), number(1, "1"), number(-1, "-1"), number(-7, "-7"), number(10, "10"), number(907, "907"), number(1<<32, "4294967296"),
		number(math.MaxInt64, "9223372036854775807"), number(math.MinInt64, "-9223372036854775808"),
		text(""), text("0"), text("1"), text("nil"), text("true"), text("a"), text("ab"), text("b"), text("\x00"), text("a\x00"), text("\xff"), text("\xffa"), text("é"), text(strings.Repeat("y", 300)),
	}
	for _, n := range []int64{0, 1, -1, 1 << 32, math.MaxInt64, math.MinInt64} {
		l = append(l,
			group{"a table", junk(api.Table, n), true, "table", "table"},
			group{"a function", junk(api.Func, n), true, "function", "function"},
			group{"a builtin", junk(api.Builtin, n), true, "function", "function"},
			group{"a thread", junk(api.Thread, n), true, "thread", "thread"})
	}
	return l
}

func strangeOnes() []api.Value {
	var l []api.Value
	for _, kind := range []int{-1, -2, -7, 8, 9, 255, 256, 258, 1 << 32, 1<<32 + api.Int, math.MaxInt, math.MinInt} {
		l = append(l, api.Value{Kind: kind}, api.Value{Kind: kind, N: 1}, api.Value{Kind: kind, S: "x"}, api.Value{Kind: kind, N: -5, S: "1"})
	}
	return l
}

func everyValue() []api.Value {
	l := strangeOnes()
	for _, g := range groups() {
		l = append(l, g.spellings...)
	}
	return l
}

// P1.1
func TestRawOfEachPair(t *testing.T) {
	l := groups()
	for i, g := range l {
		for j, h := range l {
			for _, a := range g.spellings {
				for _, b := range h.spellings {
					if got := value.Raw(a, b); got != (i == j) {
						t.Errorf("Raw(%+v, %+v), that is %s and %s: %v", a, b, g.name, h.name, got)
					}
				}
			}
		}
	}
}

// P1.1
func TestRawOfStrangeOnes(t *testing.T) {
	for _, a := range strangeOnes() {
		for _, b := range everyValue() {
			if value.Raw(a, b) || value.Raw(b, a) {
				t.Errorf("Raw of the strange %+v and %+v holds", a, b)
			}
		}
	}
}

// P1.1
func TestTruth(t *testing.T) {
	for _, g := range groups() {
		for _, v := range g.spellings {
			if got := value.Truth(v); got != g.truth {
				t.Errorf("Truth(%+v): %v", v, got)
			}
		}
	}
	for _, v := range strangeOnes() {
		if value.Truth(v) {
			t.Errorf("the strange %+v counts as true", v)
		}
	}
}

// P1.2
func TestTypeAndPrint(t *testing.T) {
	for _, g := range groups() {
		for _, v := range g.spellings {
			if got := value.Type(v); got != g.kind {
				t.Errorf("Type(%+v): %q, not %q", v, got, g.kind)
			}
			if got := value.Print(v); got != g.print {
				t.Errorf("Print(%+v): %q, not %q", v, got, g.print)
			}
		}
	}
	for _, v := range strangeOnes() {
		if kind, print := value.Type(v), value.Print(v); kind != "" || print != "" {
			t.Errorf("the strange %+v: Type %q, Print %q", v, kind, print)
		}
	}
}

// rising are values of one Kind, each less than the one behind it.
func rising() [][]api.Value {
	var numbers, texts []api.Value
	for _, n := range []int64{math.MinInt64, math.MinInt64 + 1, -1 << 32, -10, -9, -1, 0, 1, 2, 9, 10, 1 << 31, 1 << 32, math.MaxInt64 - 1, math.MaxInt64} {
		// what S says goes the other way round, so that it shows if it is looked at
		numbers = append(numbers, api.Value{Kind: api.Int, N: n, S: string(rune('z' - len(numbers)))})
	}
	for _, s := range []string{"", "\x00", "\x00\x00", "\x01", "10", "9", "A", "Z", "a", "a\x00", "aa", "ab", "b", "ba", "\x7f", "\x80", "é", "\xff", "\xff\x00", "\xff\xff"} {
		texts = append(texts, api.Value{Kind: api.Str, N: int64(-len(texts)), S: s})
	}
	return [][]api.Value{numbers, texts}
}

// P1.3
func TestLessOfWhatHasAnOrder(t *testing.T) {
	for _, l := range rising() {
		for i, a := range l {
			for j, b := range l {
				if less, ok := value.Less(a, b); less != (i < j) || !ok {
					t.Errorf("Less(%+v, %+v): %v, %v", a, b, less, ok)
				}
			}
		}
	}
}

// P1.3
func TestLessOfOthers(t *testing.T) {
	for _, a := range everyValue() {
		for _, b := range everyValue() {
			if a.Kind == b.Kind && (a.Kind == api.Int || a.Kind == api.Str) {
				continue
			}
			if less, ok := value.Less(a, b); less || ok {
				t.Errorf("Less(%+v, %+v): %v, %v", a, b, less, ok)
			}
		}
	}
}

// P1.4
func TestOwnAndKey(t *testing.T) {
	for _, g := range groups() {
		own := g.spellings[0]
		for _, v := range g.spellings {
			if got := value.Own(v); got != own {
				t.Errorf("Own(%+v): %+v, not %+v", v, got, own)
			}
			key, e := value.Key(v)
			if v.Kind == api.Nil {
				if key != (api.Value{}) || e != api.ErrKey {
					t.Errorf("Key of nil, %+v: %+v, %v", v, key, e)
				}
			} else if key != own || e != api.OK {
				t.Errorf("Key(%+v): %+v, %v, not %+v", v, key, e, own)
			}
		}
	}
}

// P1.4
func TestOwnAndKeyOfStrangeOnes(t *testing.T) {
	for _, v := range strangeOnes() {
		if got := value.Own(v); got != (api.Value{}) {
			t.Errorf("Own of the strange %+v: %+v", v, got)
		}
		if key, e := value.Key(v); key != (api.Value{}) || e != api.ErrKey {
			t.Errorf("Key of the strange %+v: %+v, %v", v, key, e)
		}
	}
}

// P1.4
func TestMakers(t *testing.T) {
	for _, n := range []int64{0, 1, -1, 1 << 32, math.MaxInt64, math.MinInt64} {
		if got := value.OfInt(n); got != (api.Value{Kind: api.Int, N: n}) {
			t.Errorf("OfInt(%d): %+v", n, got)
		}
	}
	for _, s := range []string{"", "1", "a\x00b", "\xff", strings.Repeat("z", api.MaxStr+1)} {
		if got := value.OfStr(s); got != (api.Value{Kind: api.Str, S: s}) {
			t.Errorf("OfStr of %d bytes: another value", len(s))
		}
	}
	if got := value.OfBool(true); got != (api.Value{Kind: api.Bool, N: 1}) {
		t.Errorf("OfBool(true): %+v", got)
	}
	if got := value.OfBool(false); got != (api.Value{Kind: api.Bool}) {
		t.Errorf("OfBool(false): %+v", got)
	}
}

// P1.5
func TestRawIsAnEquality(t *testing.T) {
	l := everyValue()
	for _, a := range l {
		known := a.Kind >= api.Nil && a.Kind <= api.Thread
		if value.Raw(a, a) != known {
			t.Errorf("Raw of %+v and itself: %v", a, !known)
		}
		for _, b := range l {
			if value.Raw(a, b) != value.Raw(b, a) {
				t.Errorf("Raw of %+v and %+v hangs on which is first", a, b)
			}
			if !value.Raw(a, b) {
				continue
			}
			for _, c := range l {
				if value.Raw(b, c) != value.Raw(a, c) {
					t.Errorf("%+v and %+v are one, but not to %+v", a, b, c)
				}
			}
		}
	}
}

// P1.5
func TestJustOneOfLessGreaterRaw(t *testing.T) {
	l := everyValue()
	for _, r := range rising() {
		l = append(l, r...)
	}
	for _, a := range l {
		for _, b := range l {
			less, ok := value.Less(a, b)
			greater, back := value.Less(b, a)
			if ok != back {
				t.Errorf("%+v and %+v can be asked one way alone", a, b)
			}
			held := 0
			for _, x := range []bool{less, greater, value.Raw(a, b)} {
				if x {
					held++
				}
			}
			if ok && held != 1 {
				t.Errorf("%+v and %+v: %d of less, greater and Raw hold", a, b, held)
			}
		}
	}
}

// P1.5
func TestRawJustIfKeysAreTheSame(t *testing.T) {
	l := everyValue()
	for _, a := range l {
		for _, b := range l {
			if a.Kind == api.Nil && b.Kind == api.Nil {
				continue
			}
			j, d := value.Key(a)
			k, e := value.Key(b)
			if same := d == api.OK && e == api.OK && j == k; same != value.Raw(a, b) {
				t.Errorf("%+v and %+v: the same key %v, Raw %v", a, b, same, !same)
			}
		}
	}
}

// The chapter's examples.
func TestExamples(t *testing.T) {
	if value.Raw(value.OfInt(1), value.OfStr("1")) {
		t.Error("the number 1 is the string 1")
	}
	if got := value.Print(value.OfInt(-7)); got != "-7" {
		t.Error(got)
	}
	if less, ok := value.Less(value.OfStr("ab"), value.OfStr("b")); !less || !ok {
		t.Error(less, ok)
	}
	if key, e := value.Key(api.Value{}); key != (api.Value{}) || e != api.ErrKey {
		t.Error(key, e)
	}
}
