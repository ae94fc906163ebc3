package oper_test

import (
	"math"
	"strconv"
	"strings"

	"selkie/api"
)

// sample is a value and what the chapters tell of it. Values are one if their names are; a strange one's name is nothing, and it is one with none.
type sample struct {
	v        api.Value
	name     string
	word     string
	isNumber bool
	n        int64
	isText   bool
	text     string
	truth    bool
}

// junkTexts stand in an S that a Kind doesn't name: some would count as numbers, if they were looked at.
func junkTexts() []string { return []string{"", "10", "x"} }

// junkNumbers stand in an N that a Kind doesn't name.
func junkNumbers() []int64 { return []int64{0, 1, -1, math.MinInt64} }

func nils() []sample {
	var l []sample
	for _, n := range junkNumbers() {
		for _, s := range junkTexts() {
			l = append(l, sample{v: api.Value{N: n, S: s}, name: "nil", word: "nil"})
		}
	}
	return l
}

// bools have a few that are neither 0 nor 1.
func bools() []sample {
	var l []sample
	for _, n := range []int64{0, 1, -1, 2, 256, 1 << 32, math.MinInt64, math.MaxInt64} {
		name := "false"
		if n != 0 {
			name = "true"
		}
		for _, s := range junkTexts() {
			l = append(l, sample{v: api.Value{Kind: api.Bool, N: n, S: s}, name: name, word: "boolean", truth: n != 0})
		}
	}
	return l
}

func numbers() []sample {
	var l []sample
	for i, n := range []int64{0, 1, -1, 2, 7, -7, 9, 10, 63, 64, -64, 65, 1 << 32, math.MaxInt64, math.MinInt64, math.MinInt64 + 1} {
		digits := strconv.FormatInt(n, 10)
		l = append(l, sample{api.Value{Kind: api.Int, N: n, S: junkTexts()[i%3]}, "number " + digits, "number", true, n, true, digits, true})
	}
	return append(l, sample{api.Value{Kind: api.Int, N: 10, S: "11"}, "number 10", "number", true, 10, true, "10", true})
}

func textsThatAreNumbers() []sample {
	var l []sample
	for _, x := range []struct {
		s string
		n int64
	}{
		{"0", 0}, {"1", 1}, {"7", 7}, {"10", 10}, {"9", 9}, {"-7", -7}, {"+7", 7}, {"007", 7}, {" 5", 5}, {"5\n", 5}, {"\t\v\f\r 5 \n", 5}, {"0x10", 16}, {" -0x10 ", -16}, {"+0Xff", 255}, {"64", 64}, {"-1", -1},
		{"9223372036854775807", math.MaxInt64}, {"-9223372036854775808", math.MinInt64}, {"0xffffffffffffffff", -1}, {"0x8000000000000000", math.MinInt64}, {strings.Repeat("0", 300) + "1", 1},
	} {
		l = append(l, sample{api.Value{Kind: api.Str, S: x.s}, "string " + x.s, "string", true, x.n, true, x.s, true})
	}
	return append(l, sample{api.Value{Kind: api.Str, N: 3, S: "10"}, "string 10", "string", true, 10, true, "10", true})
}

func textsThatAreNone() []sample {
	var l []sample
	for i, s := range []string{
		"", " ", "a", "ab", "b", "1a", "a1", "1 2", "-", "--1", "- 1", "0x", "0xg", "1.5", "1e3", "9223372036854775808", "-9223372036854775809",
		"nil", "true", "\x00", "1\x00", "\xff", "\u0663", "\u00a01", strings.Repeat("y", 300),
	} {
		l = append(l, sample{v: api.Value{Kind: api.Str, N: junkNumbers()[i%4], S: s}, name: "string " + s, word: "string", isText: true, text: s, truth: true})
	}
	return l
}

// madeThings are tables, functions, builtins and threads: both sorts of functions have one word, but are not one.
func madeThings() []sample {
	words := map[int]string{api.Table: "table", api.Func: "function", api.Builtin: "function", api.Thread: "thread"}
	var l []sample
	for kind := api.Table; kind <= api.Thread; kind++ {
		for i, n := range []int64{0, 0, 1, -1, 1 << 32, math.MaxInt64, math.MinInt64} {
			name := "kind " + strconv.Itoa(kind) + " " + strconv.FormatInt(n, 10)
			l = append(l, sample{v: api.Value{Kind: kind, N: n, S: junkTexts()[i%3]}, name: name, word: words[kind], truth: true})
		}
	}
	return l
}

// strangeOnes bear a Kind that is none: they count as nothing, whatever their fields are.
func strangeOnes() []sample {
	var l []sample
	for i, kind := range []int{-1, -2, -8, 8, 9, 255, 256, 256 + api.Int, 256 + api.Str, 1 << 32, 1<<32 + api.Int, 1<<32 + api.Str, math.MaxInt, math.MinInt} {
		l = append(l, sample{v: api.Value{Kind: kind, N: junkNumbers()[i%4], S: junkTexts()[i%3]}}, sample{v: api.Value{Kind: kind, N: 1, S: "1"}})
	}
	return l
}

func samples() []sample {
	l := append(nils(), bools()...)
	l = append(l, numbers()...)
	l = append(l, textsThatAreNumbers()...)
	l = append(l, textsThatAreNone()...)
	l = append(l, madeThings()...)
	return append(l, strangeOnes()...)
}

// eachPair goes through the samples two by two, each as the left one and as the right one.
func eachPair(do func(a, b sample)) {
	l := samples()
	for _, a := range l {
		for _, b := range l {
			do(a, b)
		}
	}
}

// areOne says whether two values are one.
func areOne(a, b sample) bool { return a.name == b.name && a.name != "" }

// ordered says whether two values have an order: two numbers have one, and two strings, but no number and string.
func ordered(a, b sample) bool {
	return a.word == b.word && (a.word == "number" || a.word == "string")
}

// isLess says whether the left one of two values that have an order is less.
func isLess(a, b sample) bool {
	if a.word == "number" {
		return a.n < b.n
	}
	return strings.Compare(a.text, b.text) < 0
}

// reckoning are the operators that make a number of two numbers.
func reckoning() []int {
	return []int{api.Add, api.Sub, api.Mul, api.Idiv, api.Mod, api.Band, api.Bor, api.Bxor, api.Shl, api.Shr}
}

// strangeOps are numbers of no operator at all.
func strangeOps() []int {
	l := []int{0, -1, -2, -10, -11, -17, -20, -23, -128, 24, 25, 26, 31, 32, 255, 1 << 16, 1 << 32, math.MaxInt32, math.MinInt32, math.MaxInt, math.MinInt}
	for op := api.Add; op <= api.Len; op++ {
		l = append(l, 256+op, 1<<32+op, math.MinInt+op)
	}
	return l
}

// everyOp is each operator, and numbers of none.
func everyOp() []int {
	l := strangeOps()
	for op := api.Add; op <= api.Len; op++ {
		l = append(l, op)
	}
	return l
}
