package words_test

import (
	"math"
	"strings"

	"selkie/api"
)

// sample is a value and what the chapters tell of it: its word, whether it counts as a number and as a string, and how it is shown as an error.
type sample struct {
	v                api.Value
	word             string
	isNumber, isText bool
	shown            string
}

// junkTexts stand in an S that a Kind doesn't name: some would count as numbers, if they were looked at.
func junkTexts() []string { return []string{"", "10", "x", "nil", "\x00"} }

// junkNumbers stand in an N that says nothing of what is told here.
func junkNumbers() []int64 { return []int64{0, 1, -1, 1 << 32, math.MinInt64, math.MaxInt64} }

func junk(kind int, word string) []sample {
	var l []sample
	for _, n := range junkNumbers() {
		for _, s := range junkTexts() {
			l = append(l, sample{api.Value{Kind: kind, N: n, S: s}, word, false, false, "(error object is a " + word + " value)"})
		}
	}
	return l
}

func nils() []sample { return junk(api.Nil, "nil") }

// bools have a few that are neither 0 nor 1.
func bools() []sample {
	l := junk(api.Bool, "boolean")
	for _, n := range []int64{2, -2, 255, 256} {
		l = append(l, sample{api.Value{Kind: api.Bool, N: n}, "boolean", false, false, "(error object is a boolean value)"})
	}
	return l
}

func numbers() []sample {
	var l []sample
	for _, x := range []struct {
		n     int64
		shown string
	}{
		{0, "0"}, {1, "1"}, {-1, "-1"}, {7, "7"}, {-7, "-7"}, {10, "10"}, {907, "907"}, {1 << 32, "4294967296"},
		{math.MaxInt64, "9223372036854775807"}, {math.MinInt64, "-9223372036854775808"},
	} {
		for _, s := range junkTexts() {
			l = append(l, sample{api.Value{Kind: api.Int, N: x.n, S: s}, "number", true, true, x.shown})
		}
	}
	return l
}

func texts(isNumber bool, list ...string) []sample {
	var l []sample
	for _, s := range list {
		for _, n := range junkNumbers() {
			l = append(l, sample{api.Value{Kind: api.Str, N: n, S: s}, "string", isNumber, true, s})
		}
	}
	return l
}

func textsThatAreNumbers() []sample {
	return texts(true, "0", "7", "10", "-7", "+7", "007", " 5", "5\n", "\t\v\f\r 5 \n", "0x10", " -0x10 ", "+0Xff",
		"9223372036854775807", "-9223372036854775808", "0xffffffffffffffff", "0x10000000000000000", strings.Repeat("0", 300)+"1")
}

func textsThatAreNone() []sample {
	return texts(false, "", " ", "a", "1a", "a1", "1 2", "-", "+", "--1", "- 1", "0x", "0xg", "1.5", "1e3", "9223372036854775808", "-9223372036854775809",
		"nil", "true", "number", "\x00", "1\x00", "\xff", "\u0663", "\u00a01", "%d", strings.Repeat("y", 300))
}

func madeThings() []sample {
	l := junk(api.Table, "table")
	l = append(l, junk(api.Func, "function")...)
	l = append(l, junk(api.Builtin, "function")...)
	return append(l, junk(api.Thread, "thread")...)
}

// strangeOnes bear a Kind that is none: their word is nothing, and they count as nothing.
func strangeOnes() []sample {
	var l []sample
	for _, kind := range []int{-1, -2, -8, 8, 9, 255, 256, 256 + api.Int, 256 + api.Str, 1 << 32, 1<<32 + api.Int, 1<<32 + api.Str, math.MaxInt, math.MinInt} {
		l = append(l, junk(kind, "")...)
	}
	return l
}

func samples() []sample {
	l := append(nils(), bools()...)
	l = append(l, numbers()...)
	l = append(l, textsThatAreNumbers()...)
	l = append(l, textsThatAreNone()...)
	l = append(l, madeThings()...)
	return append(l, strangeOnes()...)
}

// eachPair goes through the samples two by two, each as the left one and as the right one.
func eachPair(do func(a, b sample)) {
	l := samples()
	for _, a := range l {
		for _, b := range l {
			do(a, b)
		}
	}
}

// blamed is the right one of two values, if the left one is fit for what was tried.
func blamed(a, b sample, fit bool) sample {
	if fit {
		return b
	}
	return a
}
