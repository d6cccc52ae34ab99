package tests

import (
	"math"
	"math/big"
	"math/rand"
	"testing"

	"loop.example/s01308/impl"
)

var allOps = []int{impl.CalcAdd, impl.CalcSub, impl.CalcMul, impl.CalcDiv, impl.CalcMod}

// exact works in whole numbers without bounds and looks at the bounds last.
func exact(op int, a, b int64) (int64, int) {
	x, y, v := big.NewInt(a), big.NewInt(b), new(big.Int)
	if (op == impl.CalcDiv || op == impl.CalcMod) && b == 0 {
		return 0, impl.EvalZero
	}
	switch op {
	case impl.CalcAdd:
		v.Add(x, y)
	case impl.CalcSub:
		v.Sub(x, y)
	case impl.CalcMul:
		v.Mul(x, y)
	case impl.CalcDiv:
		v.Quo(x, y)
	case impl.CalcMod:
		v.Rem(x, y)
	default:
		return 0, impl.EvalShape
	}
	if !v.IsInt64() {
		return 0, impl.EvalOverflow
	}
	return v.Int64(), impl.EvalOK
}

func checkCalc(t *testing.T, op int, a, b int64) {
	t.Helper()
	want, wantCode := exact(op, a, b)
	if got, code := impl.Calc(op, a, b); got != want || code != wantCode {
		t.Errorf("Calc(%d, %d, %d) = %d, %d, want %d, %d", op, a, b, got, code, want, wantCode)
	}
}

// edgeNumbers are the numbers around which something changes: zero, the ends,
// their halves and roots, and all powers of two.
func edgeNumbers() []int64 {
	var out []int64
	around := func(n int64) {
		for d := int64(-2); d <= 2; d++ {
			out = append(out, n+d) // at the ends this wraps to the other end, which is an edge too
		}
	}
	for _, n := range []int64{0, math.MinInt64, math.MaxInt64, math.MinInt64 / 2, math.MaxInt64 / 2,
		math.MinInt64 / 3, math.MaxInt64 / 3, 3037000499, -3037000499, 10, -10} {
		around(n)
	}
	for shift := range 63 {
		around(1 << shift)
		around(-1 << shift)
	}
	return out
}

func TestCalcOnEdges(t *testing.T) {
	edges := edgeNumbers()
	for _, op := range allOps {
		for _, a := range edges {
			for _, b := range edges {
				checkCalc(t, op, a, b)
			}
		}
	}
}

func TestCalcOnManyNumbers(t *testing.T) {
	random := rand.New(rand.NewSource(3))
	number := func() int64 { return int64(random.Uint64()) >> random.Intn(64) }
	for range 100000 {
		a, b := number(), number()
		for _, op := range allOps {
			checkCalc(t, op, a, b)
		}
		// A product close to an end of the range is where a check is easily wrong by one.
		if b != 0 && b != -1 {
			q := math.MaxInt64 / b
			for d := int64(-1); d <= 1; d++ {
				checkCalc(t, impl.CalcMul, q+d, b)
				checkCalc(t, impl.CalcMul, b, -q+d)
			}
		}
	}
}

func TestCalcOnSmallNumbers(t *testing.T) {
	for a := int64(-40); a <= 40; a++ {
		for b := int64(-40); b <= 40; b++ {
			for _, op := range allOps {
				checkCalc(t, op, a, b)
			}
		}
	}
}

func TestCalcWords(t *testing.T) {
	const least, most = math.MinInt64, math.MaxInt64
	for _, c := range []struct {
		op   int
		a, b int64
		v    int64
		code int
	}{
		{impl.CalcAdd, least, least, 0, impl.EvalOverflow},
		{impl.CalcAdd, least, most, -1, impl.EvalOK},
		{impl.CalcAdd, most, most, 0, impl.EvalOverflow},
		{impl.CalcSub, least, least, 0, impl.EvalOK},
		{impl.CalcSub, least, most, 0, impl.EvalOverflow},
		{impl.CalcSub, most, least, 0, impl.EvalOverflow},
		{impl.CalcSub, 0, most, -most, impl.EvalOK},
		{impl.CalcMul, least, -1, 0, impl.EvalOverflow},
		{impl.CalcMul, -1, least, 0, impl.EvalOverflow},
		{impl.CalcMul, -1, most, -most, impl.EvalOK},
		{impl.CalcMul, least, 1, least, impl.EvalOK},
		{impl.CalcMul, least, 0, 0, impl.EvalOK},
		{impl.CalcMul, 0, least, 0, impl.EvalOK},
		{impl.CalcMul, least, least, 0, impl.EvalOverflow},
		{impl.CalcDiv, least, -1, 0, impl.EvalOverflow},
		{impl.CalcDiv, least, 1, least, impl.EvalOK},
		{impl.CalcDiv, least, least, 1, impl.EvalOK},
		{impl.CalcDiv, most, least, 0, impl.EvalOK},
		{impl.CalcDiv, least, most, -1, impl.EvalOK},
		{impl.CalcDiv, 7, -2, -3, impl.EvalOK},
		{impl.CalcDiv, least, 0, 0, impl.EvalZero},
		{impl.CalcDiv, 0, 0, 0, impl.EvalZero},
		{impl.CalcMod, least, -1, 0, impl.EvalOK},
		{impl.CalcMod, least, most, -1, impl.EvalOK},
		{impl.CalcMod, most, least, most, impl.EvalOK},
		{impl.CalcMod, -7, -2, -1, impl.EvalOK},
		{impl.CalcMod, most, 0, 0, impl.EvalZero},
	} {
		if v, code := impl.Calc(c.op, c.a, c.b); v != c.v || code != c.code {
			t.Errorf("Calc(%d, %d, %d) = %d, %d, want %d, %d", c.op, c.a, c.b, v, code, c.v, c.code)
		}
	}
}

// Of an op that is none nothing else counts, not even a zero on the right.
func TestCalcOfNoOperation(t *testing.T) {
	for _, op := range []int{0, 6, 7, -1, -5, 100, math.MinInt, math.MaxInt, 1 << 32, 1<<32 + 1, 257} {
		for _, b := range []int64{0, 1, -1, math.MinInt64} {
			if v, code := impl.Calc(op, 5, b); v != 0 || code != impl.EvalShape {
				t.Errorf("Calc(%d, 5, %d) = %d, %d", op, b, v, code)
			}
		}
	}
}
