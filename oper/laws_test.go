package oper_test

import (
	"testing"

	"selkie/api"
	"selkie/oper"
)

func do(op int, a, b api.Value) answer {
	v, e := oper.Do(op, a, b, room)
	return answer{v, e}
}

// P11.3, P11.5
func TestSwapHoldsAgainstDo(t *testing.T) {
	eachPair(func(a, b sample) {
		for op := api.Add; op <= api.Len; op++ {
			other, swapped, turned := oper.Swap(op)
			left, right := a.v, b.v
			if swapped {
				left, right = right, left
			}
			want := do(other, left, right)
			if turned && want.e == api.OK {
				want.v = bool1(want.v != yes)
			}
			if got := do(op, a.v, b.v); got != want {
				t.Errorf("Do(%d, %+v, %+v): %+v, but by Swap %+v", op, a.v, b.v, got, want)
			}
		}
	})
}

// P11.5
func TestNeIsEqTurned(t *testing.T) {
	eachPair(func(a, b sample) {
		eq, ne := do(api.Eq, a.v, b.v), do(api.Ne, a.v, b.v)
		if eq.e != api.OK || ne.e != api.OK || eq.v == ne.v {
			t.Errorf("%+v and %+v: Eq %+v, Ne %+v", a.v, b.v, eq, ne)
		}
	})
}

// P11.5
func TestGtAndGeAreTheOtherWayRound(t *testing.T) {
	eachPair(func(a, b sample) {
		if gt, lt := do(api.Gt, a.v, b.v), do(api.Lt, b.v, a.v); gt != lt {
			t.Errorf("%+v and %+v: Gt %+v, the other way round Lt %+v", a.v, b.v, gt, lt)
		}
		if ge, le := do(api.Ge, a.v, b.v), do(api.Le, b.v, a.v); ge != le {
			t.Errorf("%+v and %+v: Ge %+v, the other way round Le %+v", a.v, b.v, ge, le)
		}
	})
}

// P11.5
func TestOneOfLtEqGtIsSo(t *testing.T) {
	pairs := 0
	eachPair(func(a, b sample) {
		if !ordered(a, b) {
			return
		}
		pairs++
		so := 0
		for _, op := range []int{api.Lt, api.Eq, api.Gt} {
			x := do(op, a.v, b.v)
			if x.e != api.OK {
				t.Errorf("Do(%d, %+v, %+v): %v", op, a.v, b.v, x.e)
			}
			if x.v == yes {
				so++
			}
		}
		if so != 1 {
			t.Errorf("%+v and %+v: %d of Lt, Eq, Gt are so", a.v, b.v, so)
		}
	})
	if pairs == 0 {
		t.Error("no pair has an order")
	}
}

// P11.5
func TestJoiningIsThereAsOftenAsBothAreStrings(t *testing.T) {
	eachPair(func(a, b sample) {
		if x := do(api.Concat, a.v, b.v); (x.e == api.OK) != (a.isText && b.isText) {
			t.Errorf("Concat of %+v and %+v: %+v", a.v, b.v, x)
		}
	})
}

// P11.5
func TestWhatCountsAsANumberAddsAsIt(t *testing.T) {
	eachPair(func(a, b sample) {
		if !a.isNumber || !b.isNumber {
			return
		}
		if got, want := do(api.Add, a.v, b.v), do(api.Add, n(a.n), n(b.n)); got != want || got != (answer{n(a.n + b.n), api.OK}) {
			t.Errorf("Add of %+v and %+v: %+v, as numbers %+v", a.v, b.v, got, want)
		}
	})
}

// P11.1, P11.4
func TestExamples(t *testing.T) {
	checkDo(t, api.Add, s("10"), n(1), room, answer{n(11), api.OK})
	checkDo(t, api.Concat, n(1), s("a"), room, answer{s("1a"), api.OK})
	checkDo(t, api.Lt, n(1), s("a"), room, refused(api.ErrValue))
	if got := oper.Blame(api.Lt, n(1), s("a")); got != "attempt to compare number with string" {
		t.Errorf("Blame of Lt: %q", got)
	}
}
