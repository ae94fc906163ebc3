package num_test

import (
	"math"
	"math/big"
	"testing"

	"selkie/api"
	"selkie/num"
)

const (
	least = math.MinInt64
	most  = math.MaxInt64
	full  = math.MaxUint64
)

// numbers are of both signs, and those around which something turns.
func numbers() []int64 {
	l := []int64{0, 1, 2, 3, 5, 6, 7, 10, 59, 60, 61, 62, 63, 64, 65, 66, 127, 128, 129, 255, 256, 1000, 0x5555555555555555, 0x0123456789abcdef}
	for _, bit := range []int{31, 32, 33, 61, 62} {
		l = append(l, 1<<bit-1, 1<<bit, 1<<bit+1)
	}
	l = append(l, most, most-1, most-2, most/2, most/3, 3037000499, 3037000500)
	for _, n := range l[1:] {
		l = append(l, -n)
	}
	return append(l, least)
}

// wrap is a whole number modulo 2^64, as a number from -2^63 on.
func wrap(n *big.Int) int64 {
	low := new(big.Int).And(n, new(big.Int).SetUint64(full))
	return int64(low.Uint64())
}

// floor is the greatest whole number not above a divided by b.
func floor(a, b *big.Int) *big.Int {
	q, r := new(big.Int).QuoRem(a, b, new(big.Int))
	if r.Sign()*b.Sign() < 0 {
		q.Sub(q, big.NewInt(1))
	}
	return q
}

type row struct {
	a, b, want int64
}

func checkDo(t *testing.T, name string, op int, rows []row) {
	t.Helper()
	for _, x := range rows {
		if n, e := num.Do(op, x.a, x.b); n != x.want || e != api.OK {
			t.Errorf("%s of %d and %d: %d, %v, not %d", name, x.a, x.b, n, e, x.want)
		}
	}
}

// do is Do where an error may not be.
func do(t *testing.T, op int, a, b int64) int64 {
	t.Helper()
	n, e := num.Do(op, a, b)
	if e != api.OK {
		t.Fatalf("Do(%d, %d, %d): %v", op, a, b, e)
	}
	return n
}

// P2.1
func TestSumsAndProductsGoRound(t *testing.T) {
	checkDo(t, "Add", api.Add, []row{
		{2, 3, 5}, {-2, -3, -5}, {2, -3, -1}, {0, 0, 0}, {most, 1, least}, {least, -1, most}, {most, most, -2}, {least, least, 0}, {least, most, -1},
	})
	checkDo(t, "Sub", api.Sub, []row{
		{2, 3, -1}, {-2, -3, 1}, {2, -3, 5}, {least, 1, most}, {most, -1, least}, {0, least, least}, {-1, least, most}, {least, least, 0}, {least, most, 1}, {most, least, -1},
	})
	checkDo(t, "Mul", api.Mul, []row{
		{6, 7, 42}, {-6, 7, -42}, {-6, -7, 42}, {0, least, 0}, {most, 2, -2}, {most, most, 1}, {least, -1, least}, {least, 2, 0}, {least, least, 0}, {least, most, least}, {1 << 32, 1 << 31, least}, {1 << 32, 1 << 32, 0}, {3037000500, 3037000500, -9223372036709301616},
	})
}

// P2.1
func TestSumsAndProductsOfAllPairs(t *testing.T) {
	for _, a := range numbers() {
		for _, b := range numbers() {
			x, y := big.NewInt(a), big.NewInt(b)
			checkDo(t, "Add", api.Add, []row{{a, b, wrap(new(big.Int).Add(x, y))}})
			checkDo(t, "Sub", api.Sub, []row{{a, b, wrap(new(big.Int).Sub(x, y))}})
			checkDo(t, "Mul", api.Mul, []row{{a, b, wrap(new(big.Int).Mul(x, y))}})
		}
	}
}

// P2.1
func TestQuotientsAndRests(t *testing.T) {
	checkDo(t, "Idiv", api.Idiv, []row{
		{7, 2, 3}, {-7, 2, -4}, {7, -2, -4}, {-7, -2, 3}, {6, 2, 3}, {-6, 2, -3}, {6, -2, -3}, {-6, -2, 3}, {0, 5, 0}, {0, -5, 0}, {1, 5, 0}, {-1, 5, -1}, {1, -5, -1}, {-1, -5, 0},
		{most, 1, most}, {least, 1, least}, {most, -1, -most}, {least, -1, least}, {least, 2, -1 << 62}, {least, least, 1}, {most, most, 1}, {least, most, -2}, {most, least, -1}, {least + 1, least, 0}, {-1, most, -1}, {-1, least, 0}, {1, least, -1},
	})
	checkDo(t, "Mod", api.Mod, []row{
		{7, 2, 1}, {-7, 2, 1}, {7, -2, -1}, {-7, -2, -1}, {6, 2, 0}, {-6, 2, 0}, {6, -2, 0}, {-6, -2, 0}, {0, 5, 0}, {0, -5, 0}, {1, 5, 1}, {-1, 5, 4}, {1, -5, -4}, {-1, -5, -1},
		{most, 1, 0}, {least, 1, 0}, {most, -1, 0}, {least, -1, 0}, {least, 3, 1}, {least, -3, -2}, {least, least, 0}, {most, most, 0}, {least, most, most - 1}, {most, least, -1}, {-1, most, most - 1}, {-1, least, -1}, {1, least, least + 1},
	})
}

// P2.1
func TestQuotientsAndRestsOfAllPairs(t *testing.T) {
	for _, a := range numbers() {
		for _, b := range numbers() {
			if b == 0 {
				continue
			}
			x, y := big.NewInt(a), big.NewInt(b)
			q := floor(x, y)
			r := new(big.Int).Sub(x, new(big.Int).Mul(y, q))
			checkDo(t, "Idiv", api.Idiv, []row{{a, b, wrap(q)}})
			checkDo(t, "Mod", api.Mod, []row{{a, b, wrap(r)}})
			if rest := do(t, api.Mod, a, b); rest != 0 && (rest < 0) != (b < 0) {
				t.Errorf("Mod of %d and %d: %d has another sign than the divisor", a, b, rest)
			}
		}
	}
}

// P2.1
func TestDivisorOfZero(t *testing.T) {
	for _, a := range numbers() {
		for _, op := range []int{api.Idiv, api.Mod} {
			if n, e := num.Do(op, a, 0); n != 0 || e != api.ErrZero {
				t.Errorf("Do(%d, %d, 0): %d, %v", op, a, n, e)
			}
		}
		for _, op := range []int{api.Add, api.Sub, api.Mul, api.Band, api.Bor, api.Bxor, api.Shl, api.Shr} {
			if _, e := num.Do(op, a, 0); e != api.OK {
				t.Errorf("Do(%d, %d, 0): %v, but 0 divides nothing there", op, a, e)
			}
		}
	}
}

// P2.1
func TestBitByBit(t *testing.T) {
	checkDo(t, "Band", api.Band, []row{{6, 3, 2}, {-1, 5, 5}, {least, most, 0}, {least, -1, least}})
	checkDo(t, "Bor", api.Bor, []row{{6, 3, 7}, {-1, 5, -1}, {least, most, -1}, {least, 1, least + 1}})
	checkDo(t, "Bxor", api.Bxor, []row{{6, 3, 5}, {-1, 5, -6}, {least, most, -1}, {least, least, 0}})
	for _, a := range numbers() {
		for _, b := range numbers() {
			and, or, xor := do(t, api.Band, a, b), do(t, api.Bor, a, b), do(t, api.Bxor, a, b)
			for i := range 64 {
				p, q := uint64(a)>>i&1, uint64(b)>>i&1
				if x := uint64(and) >> i & 1; (x == 1) != (p == 1 && q == 1) {
					t.Errorf("Band of %d and %d: bit %d is %d", a, b, i, x)
				}
				if x := uint64(or) >> i & 1; (x == 1) != (p == 1 || q == 1) {
					t.Errorf("Bor of %d and %d: bit %d is %d", a, b, i, x)
				}
				if x := uint64(xor) >> i & 1; (x == 1) != (p != q) {
					t.Errorf("Bxor of %d and %d: bit %d is %d", a, b, i, x)
				}
			}
		}
	}
}

// P2.1
func TestShifts(t *testing.T) {
	checkDo(t, "Shl", api.Shl, []row{
		{5, 0, 5}, {-5, 0, -5}, {1, 4, 16}, {-1, 4, -16}, {1, 62, 1 << 62}, {1, 63, least}, {2, 63, 0}, {-1, 63, least}, {-1, 64, 0}, {-1, 65, 0}, {-1, 128, 0}, {-1, 1 << 32, 0}, {-1, most, 0},
		{8, -3, 1}, {-1, -1, most}, {-1, -60, 15}, {-1, -63, 1}, {least, -63, 1}, {-1, -64, 0}, {-1, -65, 0}, {-1, -128, 0}, {-1, -1 << 32, 0}, {-1, least + 1, 0}, {-1, least, 0}, {1, least, 0},
	})
	checkDo(t, "Shr", api.Shr, []row{
		{5, 0, 5}, {-5, 0, -5}, {16, 4, 1}, {-1, 1, most}, {-1, 60, 15}, {-1, 62, 3}, {-1, 63, 1}, {least, 63, 1}, {most, 63, 0}, {-1, 64, 0}, {-1, 65, 0}, {-1, 128, 0}, {-1, 1 << 32, 0}, {-1, most, 0},
		{1, -4, 16}, {-1, -1, -2}, {1, -63, least}, {-1, -63, least}, {-1, -64, 0}, {-1, -65, 0}, {-1, -128, 0}, {-1, -1 << 32, 0}, {-1, least + 1, 0}, {-1, least, 0}, {1, least, 0},
	})
}

// bitOf is the bit of n at a place; outside of its 64 there are noughts.
func bitOf(n, place int64) uint64 {
	if place < 0 || place > 63 {
		return 0
	}
	return uint64(n) >> place & 1
}

// P2.1
func TestShiftsMoveEachBit(t *testing.T) {
	for _, a := range numbers() {
		for by := int64(-130); by <= 130; by++ {
			l, r := do(t, api.Shl, a, by), do(t, api.Shr, a, by)
			for i := range int64(64) {
				if bitOf(l, i) != bitOf(a, i-by) {
					t.Errorf("Shl of %d by %d: %d, bit %d is wrong", a, by, l, i)
				}
				if bitOf(r, i) != bitOf(a, i+by) {
					t.Errorf("Shr of %d by %d: %d, bit %d is wrong", a, by, r, i)
				}
			}
		}
		for _, by := range numbers() {
			if by > -64 && by < 64 {
				continue
			}
			if l, r := do(t, api.Shl, a, by), do(t, api.Shr, a, by); l != 0 || r != 0 {
				t.Errorf("%d shifted by %d: %d and %d, but no bit is left", a, by, l, r)
			}
		}
	}
}

// strangeOps are numbers of no operator at all.
func strangeOps() []int {
	return []int{0, -1, -9, -10, -20, 24, 25, 256, 257, 256 + api.Neg, 1 << 32, 1<<32 + api.Add, 1<<32 + api.Neg, math.MaxInt, math.MinInt, math.MinInt + api.Add}
}

// P2.1
func TestDoOfOtherOps(t *testing.T) {
	ops := strangeOps()
	for op := api.Concat; op <= api.Len; op++ {
		ops = append(ops, op)
	}
	for _, op := range ops {
		for _, a := range []int64{0, 1, -7, least, most} {
			for _, b := range []int64{0, 1, -2, least, most} {
				if n, e := num.Do(op, a, b); n != 0 || e != api.ErrArg {
					t.Errorf("Do(%d, %d, %d): %d, %v", op, a, b, n, e)
				}
			}
		}
	}
}

// P2.2
func TestOne(t *testing.T) {
	for _, x := range []struct{ a, neg, bnot int64 }{
		{0, 0, -1}, {1, -1, -2}, {-1, 1, 0}, {7, -7, -8}, {-7, 7, 6}, {1 << 32, -1 << 32, -1<<32 - 1}, {most, least + 1, least}, {least, least, most}, {least + 1, most, most - 1},
	} {
		if n, e := num.One(api.Neg, x.a); n != x.neg || e != api.OK {
			t.Errorf("Neg of %d: %d, %v, not %d", x.a, n, e, x.neg)
		}
		if n, e := num.One(api.Bnot, x.a); n != x.bnot || e != api.OK {
			t.Errorf("Bnot of %d: %d, %v, not %d", x.a, n, e, x.bnot)
		}
	}
	for _, a := range numbers() {
		if n, e := num.One(api.Neg, a); n != wrap(new(big.Int).Neg(big.NewInt(a))) || e != api.OK {
			t.Errorf("Neg of %d: %d, %v", a, n, e)
		}
		n, e := num.One(api.Bnot, a)
		for i := range int64(64) {
			if e != api.OK || bitOf(n, i) == bitOf(a, i) {
				t.Errorf("Bnot of %d: %d, %v, bit %d isn't turned", a, n, e, i)
			}
		}
	}
}

// P2.2
func TestOneOfOtherOps(t *testing.T) {
	ops := append(strangeOps(), api.Not, api.Len)
	for op := api.Add; op <= api.Or; op++ {
		ops = append(ops, op)
	}
	for _, op := range ops {
		for _, a := range []int64{0, 1, -7, least, most} {
			if n, e := num.One(op, a); n != 0 || e != api.ErrArg {
				t.Errorf("One(%d, %d): %d, %v", op, a, n, e)
			}
		}
	}
}

// P2.3
func TestCount(t *testing.T) {
	for _, x := range []struct {
		from, to, step int64
		want           uint64
	}{
		{1, 10, 1, 10}, {1, 10, 3, 4}, {1, 9, 3, 3}, {1, 10, 9, 2}, {1, 10, 10, 1}, {1, 10, most, 1}, {-5, 5, 5, 3}, {0, 1, 1, 2},
		{10, 1, -1, 10}, {10, 1, -4, 3}, {10, 1, -3, 4}, {10, 1, -9, 2}, {10, 1, -10, 1}, {10, 1, least, 1}, {5, -5, -5, 3},
		{1, 0, 1, 0}, {10, 1, most, 0}, {most, least, 1, 0}, {most, least, most, 0}, {1, 2, -1, 0}, {1, 10, least, 0}, {least, most, -1, 0}, {least, most, least, 0},
		{4, 4, 1, 1}, {4, 4, -1, 1}, {least, least, most, 1}, {most, most, most, 1}, {least, least, least, 1}, {most, most, least, 1}, {most, most, 1, 1}, {least, least, -1, 1},
		{least, most, 1, full}, {most, least, -1, full}, {least + 1, most, 1, full}, {most, least + 1, -1, full}, {least, most - 1, 1, full}, {least + 1, most - 1, 1, full - 1}, {least, most - 2, 1, full - 1}, {most - 1, least + 1, -1, full - 1},
		{least, most, 2, 1 << 63}, {most, least, -2, 1 << 63}, {least, most, 3, full/3 + 1}, {least, most, most, 3}, {most, least, -most, 3}, {most, least, least, 2}, {least, most - 1, most, 3}, {least, most - 2, most, 2}, {most - 1, least, least, 2}, {-1, least, least, 1}, {0, least, least, 2}, {most - 1, most, 2, 1}, {0, most, 1, 1 << 63}, {least, 0, 1, 1<<63 + 1}, {-1, most, 1, 1<<63 + 1},
	} {
		if n, e := num.Count(x.from, x.to, x.step); n != x.want || e != api.OK {
			t.Errorf("Count(%d, %d, %d): %d, %v, not %d", x.from, x.to, x.step, n, e, x.want)
		}
	}
}

// count is Count, reckoned with numbers that don't go round.
func count(from, to, step int64) uint64 {
	gap := new(big.Int).Sub(big.NewInt(to), big.NewInt(from))
	size := big.NewInt(step)
	if gap.Sign()*size.Sign() < 0 {
		return 0
	}
	n := new(big.Int).Quo(gap, size)
	n.Add(n, big.NewInt(1))
	if !n.IsUint64() {
		return full
	}
	return n.Uint64()
}

// few are numbers of which three are taken at a time.
func few() []int64 {
	return []int64{least, least + 1, least + 2, -1<<62 - 1, -1 << 62, -1 << 32, -64, -7, -3, -2, -1, 0, 1, 2, 3, 7, 64, 1 << 32, 1 << 62, 1<<62 + 1, most - 2, most - 1, most}
}

// P2.3
func TestCountOfAllTriples(t *testing.T) {
	for _, from := range few() {
		for _, to := range few() {
			for _, step := range few() {
				if step == 0 {
					continue
				}
				if n, e := num.Count(from, to, step); n != count(from, to, step) || e != api.OK {
					t.Errorf("Count(%d, %d, %d): %d, %v, not %d", from, to, step, n, e, count(from, to, step))
				}
			}
		}
	}
}

// P2.3
func TestStepOfZero(t *testing.T) {
	for _, from := range few() {
		for _, to := range few() {
			if n, e := num.Count(from, to, 0); n != 0 || e != api.ErrArg {
				t.Errorf("Count(%d, %d, 0): %d, %v", from, to, n, e)
			}
		}
	}
}

// P2.4
func TestWhatUndoesWhat(t *testing.T) {
	for _, a := range numbers() {
		for _, b := range numbers() {
			if got := do(t, api.Sub, do(t, api.Add, a, b), b); got != a {
				t.Errorf("%d and %d less %d: %d", a, b, b, got)
			}
			neg, e := num.One(api.Neg, b)
			if l, r := do(t, api.Shl, a, b), do(t, api.Shr, a, neg); l != r || e != api.OK {
				t.Errorf("%d: Shl by %d is %d, Shr by %d is %d", a, b, l, neg, r)
			}
			if b == 0 {
				continue
			}
			whole := do(t, api.Mul, b, do(t, api.Idiv, a, b))
			if got := do(t, api.Add, whole, do(t, api.Mod, a, b)); got != a {
				t.Errorf("%d times Idiv and Mod of %d: %d", b, a, got)
			}
		}
	}
}

// P2.4
func TestLoopNeverPassesItsEnd(t *testing.T) {
	for _, from := range few() {
		for _, to := range few() {
			for _, step := range few() {
				if step == 0 {
					continue
				}
				n, e := num.Count(from, to, step)
				if e != api.OK {
					t.Fatalf("Count(%d, %d, %d): %v", from, to, step, e)
				}
				if n == 0 {
					continue
				}
				last := new(big.Int).SetUint64(n - 1)
				last.Add(last.Mul(last, big.NewInt(step)), big.NewInt(from))
				if last.Cmp(big.NewInt(to))*big.NewInt(step).Sign() > 0 {
					t.Errorf("Count(%d, %d, %d): %d, the last one is %v", from, to, step, n, last)
				}
			}
		}
	}
}

// P2.4
func TestLoopVisitsAllThereIs(t *testing.T) {
	for from := int64(-9); from <= 9; from++ {
		for to := int64(-9); to <= 9; to++ {
			for step := int64(-5); step <= 5; step++ {
				if step == 0 {
					continue
				}
				var want uint64
				for i := from; step > 0 && i <= to || step < 0 && i >= to; i += step {
					want++
				}
				if n, e := num.Count(from, to, step); n != want || e != api.OK {
					t.Errorf("Count(%d, %d, %d): %d, %v, but a loop goes %d times", from, to, step, n, e, want)
				}
			}
		}
	}
}

// The chapter's examples.
func TestExamples(t *testing.T) {
	checkDo(t, "Idiv", api.Idiv, []row{{-7, 2, -4}, {7, -2, -4}})
	checkDo(t, "Mod", api.Mod, []row{{-7, 2, 1}, {7, -2, -1}})
	checkDo(t, "Shr", api.Shr, []row{{-1, 60, 15}})
	if n, e := num.Count(1, 10, 3); n != 4 || e != api.OK {
		t.Error(n, e)
	}
	if n, e := num.Do(api.Idiv, 1, 0); n != 0 || e != api.ErrZero {
		t.Error(n, e)
	}
}
