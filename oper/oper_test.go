package oper_test

import (
	"math"
	"strconv"
	"strings"
	"testing"

	"selkie/api"
	"selkie/num"
	"selkie/oper"
)

const (
	least = math.MinInt64
	most  = math.MaxInt64
	// room is more bytes than any two samples have together.
	room = 1 << 20
)

var (
	none     = api.Value{}
	no       = api.Value{Kind: api.Bool}
	yes      = api.Value{Kind: api.Bool, N: 1}
	seven    = api.Value{Kind: api.Bool, N: 7}
	table    = api.Value{Kind: api.Table}
	function = api.Value{Kind: api.Func}
	builtin  = api.Value{Kind: api.Builtin}
	thread   = api.Value{Kind: api.Thread}
	strange  = api.Value{Kind: 8}
)

func n(n int64) api.Value  { return api.Value{Kind: api.Int, N: n} }
func s(s string) api.Value { return api.Value{Kind: api.Str, S: s} }

func bool1(b bool) api.Value {
	if b {
		return yes
	}
	return no
}

// answer is what a call answers, or should answer.
type answer struct {
	v api.Value
	e api.Errno
}

func refused(e api.Errno) answer { return answer{api.Value{}, e} }

func checkDo(t *testing.T, op int, a, b api.Value, most int, want answer) {
	t.Helper()
	if v, e := oper.Do(op, a, b, most); v != want.v || e != want.e {
		t.Errorf("Do(%d, %+v, %+v, %d): %+v, %v, not %+v", op, a, b, most, v, e, want)
	}
}

func checkOne(t *testing.T, op int, v api.Value, want answer) {
	t.Helper()
	if got, e := oper.One(op, v); got != want.v || e != want.e {
		t.Errorf("One(%d, %+v): %+v, %v, not %+v", op, v, got, e, want)
	}
}

// P11.1
func TestDoOfNumbers(t *testing.T) {
	for _, x := range []struct {
		op         int
		a, b, want int64
	}{
		{api.Add, 2, 3, 5}, {api.Add, most, 1, least}, {api.Add, least, -1, most},
		{api.Sub, 2, 3, -1}, {api.Sub, 0, least, least}, {api.Sub, least, 1, most},
		{api.Mul, -6, 7, -42}, {api.Mul, most, 2, -2}, {api.Mul, least, -1, least},
		{api.Idiv, 7, 2, 3}, {api.Idiv, -7, 2, -4}, {api.Idiv, 7, -2, -4}, {api.Idiv, -7, -2, 3}, {api.Idiv, least, -1, least}, {api.Idiv, least, 1, least}, {api.Idiv, 0, -5, 0},
		{api.Mod, 7, 2, 1}, {api.Mod, -7, 2, 1}, {api.Mod, 7, -2, -1}, {api.Mod, -7, -2, -1}, {api.Mod, least, -1, 0}, {api.Mod, -1, most, most - 1}, {api.Mod, 6, -3, 0},
		{api.Band, 6, 3, 2}, {api.Bor, 6, 3, 7}, {api.Bxor, 6, 3, 5}, {api.Band, -1, 5, 5}, {api.Bor, least, most, -1}, {api.Bxor, -1, 5, -6},
		{api.Shl, 1, 3, 8}, {api.Shl, 1, 63, least}, {api.Shl, 1, 64, 0}, {api.Shl, 1, 65, 0}, {api.Shl, -1, most, 0}, {api.Shl, 8, -3, 1}, {api.Shl, -1, -63, 1}, {api.Shl, -1, -64, 0}, {api.Shl, -1, least, 0}, {api.Shl, 5, 0, 5},
		{api.Shr, 8, 3, 1}, {api.Shr, -1, 60, 15}, {api.Shr, -1, 63, 1}, {api.Shr, -1, 64, 0}, {api.Shr, -1, 65, 0}, {api.Shr, -1, most, 0}, {api.Shr, 1, -3, 8}, {api.Shr, 1, -63, least}, {api.Shr, 1, -64, 0}, {api.Shr, -1, least, 0}, {api.Shr, -5, 0, -5},
	} {
		a, b := strconv.FormatInt(x.a, 10), strconv.FormatInt(x.b, 10)
		for _, left := range []api.Value{n(x.a), s(a), s(" " + a + "\n"), {Kind: api.Int, N: x.a, S: "99"}, {Kind: api.Str, N: 99, S: a}} {
			for _, right := range []api.Value{n(x.b), s(b), s("\t" + b + " "), {Kind: api.Int, N: x.b, S: "x"}, {Kind: api.Str, N: 99, S: b}} {
				checkDo(t, x.op, left, right, 0, answer{n(x.want), api.OK})
			}
		}
	}
}

// P11.1
func TestDoOfTextsThatAreNumbers(t *testing.T) {
	for _, x := range []struct {
		op         int
		a, b, want api.Value
	}{
		{api.Add, s("10"), n(1), n(11)}, {api.Add, n(1), s("10"), n(11)}, {api.Add, s("10"), s("1"), n(11)},
		{api.Sub, n(1), s(" 0x10 "), n(-15)}, {api.Sub, s("0X1F"), s("+1"), n(30)}, {api.Add, s("-0x10"), n(0), n(-16)},
		{api.Add, s("0xffffffffffffffff"), n(0), n(-1)}, {api.Bor, s("0x8000000000000000"), s("0"), n(least)}, {api.Mul, s("-9223372036854775808"), n(1), n(least)},
		{api.Shl, s("1"), s("\v4\f"), n(16)}, {api.Mod, s("-7"), s("007"), n(0)},
	} {
		checkDo(t, x.op, x.a, x.b, 0, answer{x.want, api.OK})
	}
}

// P11.1
func TestDoOfWhatIsNoNumber(t *testing.T) {
	for _, op := range reckoning() {
		for _, v := range []api.Value{none, no, yes, seven, table, function, builtin, thread, strange, s(""), s(" "), s("a"), s("1a"), s("1 2"), s("- 1"), s("0x"), s("1.5"), s("9223372036854775808"), s("-9223372036854775809"), s("1\x00"), {S: "1"}, {Kind: api.Table, S: "1"}, {Kind: 256 + api.Int, N: 1}, {Kind: -1, S: "1"}} {
			for _, other := range []api.Value{n(0), n(1), s("10"), s("a"), none, v} {
				checkDo(t, op, v, other, room, refused(api.ErrValue))
				checkDo(t, op, other, v, room, refused(api.ErrValue))
			}
		}
	}
}

// P11.1
func TestDoByZero(t *testing.T) {
	for _, op := range []int{api.Idiv, api.Mod} {
		for _, a := range []api.Value{n(0), n(1), n(-7), n(least), n(most), s("5"), s(" 0x10 ")} {
			for _, b := range []api.Value{n(0), s("0"), s("-0"), s(" 0x0 "), s("0x10000000000000000"), {Kind: api.Int, S: "5"}} {
				checkDo(t, op, a, b, room, refused(api.ErrZero))
			}
		}
		// what is no number is told first
		checkDo(t, op, s("a"), n(0), room, refused(api.ErrValue))
		checkDo(t, op, none, n(0), room, refused(api.ErrValue))
	}
	for _, op := range []int{api.Add, api.Sub, api.Mul, api.Band, api.Bor, api.Bxor, api.Shl, api.Shr} {
		if _, e := oper.Do(op, n(5), n(0), room); e != api.OK {
			t.Errorf("Do(%d, 5, 0): %v, but 0 divides nothing there", op, e)
		}
	}
}

// P11.1
func TestJoin(t *testing.T) {
	for _, x := range []struct{ a, b, want api.Value }{
		{s("a"), s("b"), s("ab")}, {s("b"), s("a"), s("ba")}, {s(""), s(""), s("")}, {s(""), s("a"), s("a")}, {s("a"), s(""), s("a")},
		{n(1), s("a"), s("1a")}, {s("a"), n(1), s("a1")}, {n(1), n(2), s("12")}, {n(-7), n(-8), s("-7-8")}, {n(least), n(most), s("-92233720368547758089223372036854775807")},
		{s(" 10 "), s("0x1"), s(" 10 0x1")}, {s("\x00"), s("\xff"), s("\x00\xff")}, {s("nil"), n(0), s("nil0")},
		{api.Value{Kind: api.Str, N: 5, S: "a"}, api.Value{Kind: api.Int, N: 5, S: "a"}, s("a5")},
	} {
		size := len(x.want.S)
		for _, most := range []int{size, size + 1, room, math.MaxInt} {
			checkDo(t, api.Concat, x.a, x.b, most, answer{x.want, api.OK})
		}
		for _, most := range []int{size - 1, 0, -1, -2, -1 << 32, math.MinInt} {
			want := refused(api.ErrLong)
			if size == 0 {
				want = answer{x.want, api.OK}
			}
			checkDo(t, api.Concat, x.a, x.b, most, want)
		}
	}
}

// P11.1
func TestJoinOfLongTexts(t *testing.T) {
	half := strings.Repeat("y", api.MaxStr/2)
	checkDo(t, api.Concat, s(half), s(half), api.MaxStr, answer{s(half + half), api.OK})
	checkDo(t, api.Concat, s(half), s(half+"z"), api.MaxStr, refused(api.ErrLong))
	checkDo(t, api.Concat, s(half+"z"), s(half), api.MaxStr, refused(api.ErrLong))
	checkDo(t, api.Concat, s(half), s(half), api.MaxStr-1, refused(api.ErrLong))
	checkDo(t, api.Concat, s(half+half), s(""), api.MaxStr, answer{s(half + half), api.OK})
	checkDo(t, api.Concat, s(half+half), n(0), api.MaxStr, refused(api.ErrLong))
}

// P11.1
func TestJoinOfWhatIsNoString(t *testing.T) {
	for _, v := range []api.Value{none, no, yes, seven, table, function, builtin, thread, strange, {S: "a"}, {Kind: api.Bool, S: "a"}, {Kind: api.Table, S: "a"}, {Kind: 256 + api.Str, S: "a"}, {Kind: -1, S: "a"}} {
		for _, other := range []api.Value{s("a"), s(""), n(1), none, v} {
			// that it would be too long as well is told behind
			for _, most := range []int{room, 0, -1, math.MinInt, math.MaxInt} {
				checkDo(t, api.Concat, v, other, most, refused(api.ErrValue))
				checkDo(t, api.Concat, other, v, most, refused(api.ErrValue))
			}
		}
	}
}

// P11.1
func TestEqAndNe(t *testing.T) {
	for _, x := range []struct {
		a, b api.Value
		one  bool
	}{
		{none, none, true}, {none, api.Value{N: 3, S: "x"}, true}, {none, no, false}, {no, no, true}, {yes, seven, true}, {yes, no, false}, {seven, api.Value{Kind: api.Bool, N: -7, S: "x"}, true},
		{n(1), n(1), true}, {n(1), n(2), false}, {n(1), s("1"), false}, {s("1"), s("01"), false}, {s("a"), s("a"), true}, {s("a"), s("b"), false}, {s(""), none, false}, {n(0), no, false},
		{table, table, true}, {table, api.Value{Kind: api.Table, N: 1}, false}, {table, api.Value{Kind: api.Table, S: "x"}, true}, {function, builtin, false}, {function, function, true}, {thread, thread, true}, {builtin, builtin, true}, {thread, table, false},
		{strange, strange, false}, {strange, none, false}, {api.Value{Kind: -1}, api.Value{Kind: -1}, false},
	} {
		checkDo(t, api.Eq, x.a, x.b, 0, answer{bool1(x.one), api.OK})
		checkDo(t, api.Eq, x.b, x.a, 0, answer{bool1(x.one), api.OK})
		checkDo(t, api.Ne, x.a, x.b, 0, answer{bool1(!x.one), api.OK})
		checkDo(t, api.Ne, x.b, x.a, 0, answer{bool1(!x.one), api.OK})
	}
}

// P11.1
func TestOrder(t *testing.T) {
	for _, x := range []struct {
		a, b           api.Value
		lt, le, gt, ge bool
	}{
		{n(1), n(2), true, true, false, false}, {n(2), n(1), false, false, true, true}, {n(2), n(2), false, true, false, true}, {n(9), n(10), true, true, false, false}, {n(least), n(most), true, true, false, false}, {n(-1), n(0), true, true, false, false},
		{s("a"), s("b"), true, true, false, false}, {s("b"), s("a"), false, false, true, true}, {s("b"), s("b"), false, true, false, true}, {s("10"), s("9"), true, true, false, false}, {s(""), s("\x00"), true, true, false, false}, {s("ab"), s("a"), false, false, true, true}, {s("\xff"), s("z"), false, false, true, true},
		{api.Value{Kind: api.Int, N: 1, S: "b"}, api.Value{Kind: api.Int, N: 1, S: "a"}, false, true, false, true},
		{api.Value{Kind: api.Str, N: 2, S: "a"}, api.Value{Kind: api.Str, N: 1, S: "b"}, true, true, false, false},
	} {
		checkDo(t, api.Lt, x.a, x.b, 0, answer{bool1(x.lt), api.OK})
		checkDo(t, api.Le, x.a, x.b, 0, answer{bool1(x.le), api.OK})
		checkDo(t, api.Gt, x.a, x.b, 0, answer{bool1(x.gt), api.OK})
		checkDo(t, api.Ge, x.a, x.b, 0, answer{bool1(x.ge), api.OK})
	}
}

// P11.1
func TestOrderOfWhatHasNone(t *testing.T) {
	for _, op := range []int{api.Lt, api.Le, api.Gt, api.Ge} {
		for _, v := range []api.Value{none, no, yes, seven, table, function, builtin, thread, strange, {S: "a"}, {Kind: 256 + api.Int, N: 1}} {
			for _, other := range []api.Value{n(1), s("1"), none, yes, table, v} {
				checkDo(t, op, v, other, room, refused(api.ErrValue))
				checkDo(t, op, other, v, room, refused(api.ErrValue))
			}
		}
		checkDo(t, op, n(1), s("1"), room, refused(api.ErrValue))
		checkDo(t, op, s("1"), n(2), room, refused(api.ErrValue))
	}
}

// wanted is what Do should answer, by the chapter's words.
func wanted(op int, a, b sample, most int) answer {
	switch {
	case op >= api.Add && op <= api.Shr:
		if !a.isNumber || !b.isNumber {
			return refused(api.ErrValue)
		}
		got, e := num.Do(op, a.n, b.n)
		if e != api.OK {
			return refused(e)
		}
		return answer{n(got), api.OK}
	case op == api.Concat:
		if !a.isText || !b.isText {
			return refused(api.ErrValue)
		}
		if len(a.text+b.text) > most && a.text+b.text != "" {
			return refused(api.ErrLong)
		}
		return answer{s(a.text + b.text), api.OK}
	case op == api.Eq:
		return answer{bool1(areOne(a, b)), api.OK}
	case op == api.Ne:
		return answer{bool1(!areOne(a, b)), api.OK}
	case op >= api.Lt && op <= api.Ge:
		if !ordered(a, b) {
			return refused(api.ErrValue)
		}
		return answer{bool1([]bool{isLess(a, b), !isLess(b, a), isLess(b, a), !isLess(a, b)}[op-api.Lt]), api.OK}
	}
	return refused(api.ErrArg)
}

// P11.1
func TestDoOfEachPair(t *testing.T) {
	eachPair(func(a, b sample) {
		for op := 0; op <= api.Len+1; op++ {
			checkDo(t, op, a.v, b.v, room, wanted(op, a, b, room))
		}
		for _, most := range []int{-1, 0, 3, 20} {
			checkDo(t, api.Concat, a.v, b.v, most, wanted(api.Concat, a, b, most))
		}
	})
}

// P11.1
func TestDoOfOtherOps(t *testing.T) {
	ops := append(strangeOps(), api.And, api.Or, api.Neg, api.Bnot, api.Not, api.Len)
	values := []api.Value{none, no, yes, n(0), n(1), s("1"), s("a"), table, function, builtin, thread, strange}
	for _, op := range ops {
		for _, a := range values {
			for _, b := range values {
				for _, most := range []int{room, 0, -1, math.MinInt, math.MaxInt} {
					checkDo(t, op, a, b, most, refused(api.ErrArg))
				}
			}
		}
	}
}

// P11.2
func TestOne(t *testing.T) {
	for _, x := range []struct {
		op      int
		v, want api.Value
	}{
		{api.Neg, n(5), n(-5)}, {api.Neg, s("5"), n(-5)}, {api.Neg, s(" -0x10 "), n(16)}, {api.Neg, n(0), n(0)}, {api.Neg, n(least), n(least)}, {api.Neg, n(most), n(least + 1)}, {api.Neg, s("-9223372036854775808"), n(least)},
		{api.Bnot, n(0), n(-1)}, {api.Bnot, n(-1), n(0)}, {api.Bnot, s("0xff"), n(-256)}, {api.Bnot, n(least), n(most)}, {api.Bnot, s("7\n"), n(-8)},
		{api.Not, none, yes}, {api.Not, no, yes}, {api.Not, yes, no}, {api.Not, seven, no}, {api.Not, api.Value{Kind: api.Bool, N: least}, no}, {api.Not, n(0), no}, {api.Not, n(1), no}, {api.Not, s(""), no}, {api.Not, s("0"), no}, {api.Not, table, no}, {api.Not, function, no}, {api.Not, builtin, no}, {api.Not, thread, no}, {api.Not, strange, yes}, {api.Not, api.Value{Kind: -1, N: 1, S: "x"}, yes}, {api.Not, api.Value{N: 1, S: "x"}, yes},
		{api.Len, s(""), n(0)}, {api.Len, s("abc"), n(3)}, {api.Len, s("\x00\xff"), n(2)}, {api.Len, s("é"), n(2)}, {api.Len, api.Value{Kind: api.Str, N: 9, S: "ab"}, n(2)}, {api.Len, s(strings.Repeat("y", api.MaxStr+1)), n(api.MaxStr + 1)},
	} {
		checkOne(t, x.op, x.v, answer{x.want, api.OK})
	}
}

// P11.2
func TestOneOfWhatItDoesNotTake(t *testing.T) {
	for _, v := range []api.Value{none, no, yes, seven, table, function, builtin, thread, strange, {S: "1"}, {Kind: api.Table, N: 1, S: "1"}, {Kind: 256 + api.Int, N: 1}, {Kind: 256 + api.Str, S: "1"}} {
		for _, op := range []int{api.Neg, api.Bnot, api.Len} {
			checkOne(t, op, v, refused(api.ErrValue))
		}
	}
	for _, v := range []string{"", " ", "a", "1a", "1 2", "- 1", "0x", "1.5", "9223372036854775808", "1\x00"} {
		checkOne(t, api.Neg, s(v), refused(api.ErrValue))
		checkOne(t, api.Bnot, s(v), refused(api.ErrValue))
	}
	checkOne(t, api.Len, n(123), refused(api.ErrValue))
	checkOne(t, api.Len, api.Value{Kind: api.Int, N: 1, S: "abc"}, refused(api.ErrValue))
}

// wantedOfOne is what One should answer, by the chapter's words.
func wantedOfOne(op int, x sample) answer {
	switch op {
	case api.Neg, api.Bnot:
		if !x.isNumber {
			return refused(api.ErrValue)
		}
		got, _ := num.One(op, x.n)
		return answer{n(got), api.OK}
	case api.Not:
		return answer{bool1(!x.truth), api.OK}
	case api.Len:
		if x.word != "string" {
			return refused(api.ErrValue)
		}
		return answer{n(int64(len(x.text))), api.OK}
	}
	return refused(api.ErrArg)
}

// P11.2
func TestOneOfEach(t *testing.T) {
	for _, x := range samples() {
		for _, op := range everyOp() {
			checkOne(t, op, x.v, wantedOfOne(op, x))
		}
	}
}

// events are the names of a metatable's fields, by operator.
func events() map[int]string {
	return map[int]string{
		api.Add: "__add", api.Sub: "__sub", api.Mul: "__mul", api.Idiv: "__idiv", api.Mod: "__mod", api.Band: "__band", api.Bor: "__bor", api.Bxor: "__bxor", api.Shl: "__shl", api.Shr: "__shr",
		api.Concat: "__concat", api.Neg: "__unm", api.Bnot: "__bnot", api.Len: "__len",
		api.Eq: "__eq", api.Ne: "__eq", api.Lt: "__lt", api.Gt: "__lt", api.Le: "__le", api.Ge: "__le",
	}
}

// P11.3
func TestEvent(t *testing.T) {
	for op, want := range events() {
		if got := oper.Event(op); got != want {
			t.Errorf("Event(%d): %q, not %q", op, got, want)
		}
	}
	for _, op := range append(strangeOps(), api.And, api.Or, api.Not) {
		if got := oper.Event(op); got != "" {
			t.Errorf("Event(%d): %q", op, got)
		}
	}
}

// P11.3
func TestSwap(t *testing.T) {
	type told struct {
		other           int
		swapped, turned bool
	}
	wants := map[int]told{api.Gt: {api.Lt, true, false}, api.Ge: {api.Le, true, false}, api.Ne: {api.Eq, false, true}}
	for _, op := range everyOp() {
		want, ok := wants[op]
		if !ok {
			want = told{op, false, false}
		}
		if other, swapped, turned := oper.Swap(op); (told{other, swapped, turned}) != want {
			t.Errorf("Swap(%d): %d, %v, %v, not %+v", op, other, swapped, turned, want)
		}
	}
}

// P11.4
func TestBlame(t *testing.T) {
	for _, x := range []struct {
		op   int
		a, b api.Value
		want string
	}{
		{api.Add, n(1), table, "attempt to perform arithmetic on a table value"}, {api.Sub, table, none, "attempt to perform arithmetic on a table value"}, {api.Mul, s("10"), none, "attempt to perform arithmetic on a nil value"}, {api.Idiv, s("a"), none, "attempt to perform arithmetic on a string value"}, {api.Mod, yes, n(1), "attempt to perform arithmetic on a boolean value"},
		{api.Band, n(1), thread, "attempt to perform arithmetic on a thread value"}, {api.Bor, function, none, "attempt to perform arithmetic on a function value"}, {api.Bxor, n(1), builtin, "attempt to perform arithmetic on a function value"}, {api.Shl, none, n(1), "attempt to perform arithmetic on a nil value"}, {api.Shr, n(1), s("x"), "attempt to perform arithmetic on a string value"},
		{api.Concat, n(1), table, "attempt to concatenate a table value"}, {api.Concat, none, table, "attempt to concatenate a nil value"}, {api.Concat, s("a"), yes, "attempt to concatenate a boolean value"},
		{api.Lt, n(1), table, "attempt to compare number with table"}, {api.Le, n(1), s("a"), "attempt to compare number with string"}, {api.Lt, none, none, "attempt to compare two nil values"},
		{api.Gt, n(1), table, "attempt to compare table with number"}, {api.Ge, n(1), s("a"), "attempt to compare string with number"}, {api.Ge, function, builtin, "attempt to compare two function values"},
		{api.Neg, table, n(1), "attempt to perform arithmetic on a table value"}, {api.Neg, s("a"), none, "attempt to perform arithmetic on a string value"}, {api.Bnot, yes, table, "attempt to perform arithmetic on a boolean value"}, {api.Bnot, n(1), table, "attempt to perform arithmetic on a number value"},
		{api.Len, n(1), table, "attempt to get length of a number value"}, {api.Len, none, s("a"), "attempt to get length of a nil value"},
		{api.Eq, n(1), table, ""}, {api.Ne, table, none, ""}, {api.And, none, none, ""}, {api.Or, none, none, ""}, {api.Not, none, none, ""}, {0, none, none, ""}, {-1, none, none, ""}, {24, table, none, ""},
		{api.Add, strange, n(1), "attempt to perform arithmetic on a  value"}, {api.Lt, strange, n(1), "attempt to compare  with number"},
	} {
		if got := oper.Blame(x.op, x.a, x.b); got != x.want {
			t.Errorf("Blame(%d, %+v, %+v): %q, not %q", x.op, x.a, x.b, got, x.want)
		}
	}
}

// saidOf is what is said of two words, none of which has to be to blame.
func saidOf(left, right string) string {
	if left == right {
		return "attempt to compare two " + left + " values"
	}
	return "attempt to compare " + left + " with " + right
}

// blameWanted is what Blame should answer, by the chapter's words.
func blameWanted(op int, a, b sample) string {
	switch {
	case op == api.Neg || op == api.Bnot:
		return "attempt to perform arithmetic on a " + a.word + " value"
	case op >= api.Add && op <= api.Shr:
		if a.isNumber {
			a = b
		}
		return "attempt to perform arithmetic on a " + a.word + " value"
	case op == api.Concat:
		if a.isText {
			a = b
		}
		return "attempt to concatenate a " + a.word + " value"
	case op == api.Lt || op == api.Le:
		return saidOf(a.word, b.word)
	case op == api.Gt || op == api.Ge:
		return saidOf(b.word, a.word)
	case op == api.Len:
		return "attempt to get length of a " + a.word + " value"
	}
	return ""
}

// P11.4
func TestBlameOfEachPair(t *testing.T) {
	eachPair(func(a, b sample) {
		for op := 0; op <= api.Len+1; op++ {
			if got, want := oper.Blame(op, a.v, b.v), blameWanted(op, a, b); got != want {
				t.Errorf("Blame(%d, %+v, %+v): %q, not %q", op, a.v, b.v, got, want)
			}
		}
	})
	values := []api.Value{none, yes, n(1), s("1"), s("a"), table, function, builtin, thread, strange}
	for _, op := range strangeOps() {
		for _, a := range values {
			for _, b := range values {
				if got := oper.Blame(op, a, b); got != "" {
					t.Errorf("Blame(%d, %+v, %+v): %q", op, a, b, got)
				}
			}
		}
	}
}
