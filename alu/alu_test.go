package alu_test

import (
	"math"
	"math/big"
	"testing"

	"strongtx/alu"
	"strongtx/api"
)

const (
	half     = 0x3FE0000000000000
	one      = 0x3FF0000000000000
	two      = 0x4000000000000000
	three    = 0x4008000000000000
	minusOne = 0xBFF0000000000000
	minZero  = 1 << 63
	inf      = 0x7FF0000000000000
	minusInf = 0xFFF0000000000000
	maxFloat = 0x7FEFFFFFFFFFFFFF
	tiny     = 1 // the least float above 0
	all      = math.MaxUint64
	greatest = math.MaxInt64
)

var nans = []uint64{api.NaN, 0x7FF0000000000001, 0x7FF8000000000001, 0x7FFFFFFFFFFFFFFF, 0xFFF0000000000001, 0xFFF8000000000000, all}

var samples = []uint64{
	0, 1, 2, 3, 5, 63, 64, 65, 255, 1 << 31, 1<<32 - 1, 1 << 32, 1<<52 + 1, 1<<53 - 1, 1 << 53, 1<<53 + 1, 1<<53 + 3,
	1 << 62, greatest - 1, greatest, minZero, minZero + 1, minZero + 5, all - 1, all,
	half, one, one + 1, two, three, minusOne, 0xC008000000000000, 0x3FB999999999999A, 0x3FC999999999999A,
	0x000FFFFFFFFFFFFF, 0x0010000000000000, 0x8010000000000000, maxFloat, maxFloat - 1, 1<<63 + maxFloat,
	inf, minusInf, api.NaN, 0x7FF0000000000001, 0xFFF8000000000000,
	0x43DFFFFFFFFFFFFF, 0x43E0000000000000, 0x43E0000000000001, 0xC3DFFFFFFFFFFFFF, 0xC3E0000000000000, 0xC3E0000000000001,
	0x7E37E43C8800759C, 0xFE37E43C8800759C, // 1e300 and -1e300
}

var noFunctions = []int{-1, -2, math.MinInt, api.Functions, api.Functions + 1, 255, 256, 1 << 32, math.MaxInt}

// result returns the word of a function, and fails the test if there is an error.
func result(t *testing.T, fn int, x, y uint64) uint64 {
	t.Helper()
	w, e := alu.Apply(fn, x, y)
	if e != api.OK {
		t.Errorf("Apply(%d, %#x, %#x): error %d", fn, x, y, e)
	}
	return w
}

type example struct {
	fn         int
	x, y, want uint64
}

func checkExamples(t *testing.T, examples []example) {
	t.Helper()
	for _, c := range examples {
		if got := result(t, c.fn, c.x, c.y); got != c.want {
			t.Errorf("Apply(%d, %#x, %#x): %#x; want %#x", c.fn, c.x, c.y, got, c.want)
		}
	}
}

// P2.1: sums, differences and products modulo 2^64, bits and shifts.
func TestIntegers(t *testing.T) {
	checkExamples(t, []example{
		{api.FnAdd, 2, 3, 5},
		{api.FnAdd, all, 1, 0},
		{api.FnAdd, minZero, minZero, 0},
		{api.FnSub, 5, 3, 2},
		{api.FnSub, 0, 1, all},
		{api.FnMul, 6, 7, 42},
		{api.FnMul, all, all, 1},
		{api.FnMul, 1 << 32, 1 << 32, 0},
		{api.FnMul, 1<<32 + 1, 1<<32 + 1, 1<<33 + 1},
		{api.FnAnd, 12, 10, 8},
		{api.FnOr, 12, 10, 14},
		{api.FnXor, 12, 10, 6},
		{api.FnXor, all, 1, all - 1},
		{api.FnShl, 3, 4, 48},
		{api.FnShl, 3, 0, 3},
		{api.FnShl, 3, 63, minZero},
		{api.FnShl, 3, 64, 3},
		{api.FnShl, 3, 65, 6},
		{api.FnShl, 3, all, minZero},
		{api.FnShl, 1, 1<<32 + 2, 4},
		{api.FnShr, 48, 4, 3},
		{api.FnShr, all, 1, greatest},
		{api.FnShr, all, 63, 1},
		{api.FnShr, all, 64, all},
		{api.FnShr, all, 65, greatest},
		{api.FnShr, all, all, 1},
		{api.FnShr, 8, 1<<32 + 2, 2},
	})
}

// P2.1: comparisons of words and of integers.
func TestComparisons(t *testing.T) {
	checkExamples(t, []example{
		{api.FnEq, 7, 7, 1},
		{api.FnEq, 7, 8, 0},
		{api.FnEq, 0, minZero, 0},
		{api.FnEq, api.NaN, api.NaN, 1},
		{api.FnNe, 7, 7, 0},
		{api.FnNe, 7, 8, 1},
		{api.FnNe, 0, minZero, 1},
		{api.FnNe, api.NaN, api.NaN, 0},
		{api.FnLt, 1, 2, 1},
		{api.FnLt, 2, 2, 0},
		{api.FnLt, 2, 1, 0},
		{api.FnLt, all, 0, 1},
		{api.FnLt, 0, all, 0},
		{api.FnLt, minZero, greatest, 1},
		{api.FnLt, greatest, minZero, 0},
		{api.FnLtu, 1, 2, 1},
		{api.FnLtu, 2, 2, 0},
		{api.FnLtu, 2, 1, 0},
		{api.FnLtu, all, 0, 0},
		{api.FnLtu, 0, all, 1},
		{api.FnLtu, greatest, minZero, 1},
	})
}

// P2.1: sums, differences, products and quotients of floats, with their special cases.
func TestFloats(t *testing.T) {
	checkExamples(t, []example{
		{api.FnFadd, one, two, three},
		{api.FnFadd, 0x3FB999999999999A, 0x3FC999999999999A, 0x3FD3333333333334}, // 0.1 + 0.2
		{api.FnFadd, inf, minusInf, api.NaN},
		{api.FnFadd, inf, inf, inf},
		{api.FnFadd, maxFloat, maxFloat, inf},
		{api.FnFadd, tiny, tiny, 2},
		{api.FnFadd, 0, minZero, 0},
		{api.FnFadd, minZero, minZero, minZero},
		{api.FnFadd, one, minusOne, 0},
		{api.FnFadd, 0x4340000000000000, one, 0x4340000000000000}, // 2^53 + 1: halfway, to the even 2^53
		{api.FnFadd, 0x4340000000000001, one, 0x4340000000000002}, // 2^53 + 3: halfway, to the even 2^53 + 4
		{api.FnFsub, three, two, one},
		{api.FnFsub, inf, inf, api.NaN},
		{api.FnFsub, one, one, 0},
		{api.FnFsub, minZero, 0, minZero},
		{api.FnFsub, 0, three, 0xC008000000000000},
		{api.FnFmul, two, half, one},
		{api.FnFmul, 0, inf, api.NaN},
		{api.FnFmul, minusOne, 0, minZero},
		{api.FnFmul, maxFloat, two, inf},
		{api.FnFmul, tiny, half, 0}, // halfway, to the even 0
		{api.FnFmul, 3, half, 2},    // halfway between denormals, to the even one
		{api.FnFdiv, one, two, half},
		{api.FnFdiv, 0, 0, api.NaN},
		{api.FnFdiv, inf, inf, api.NaN},
		{api.FnFdiv, inf, minusInf, api.NaN},
		{api.FnFdiv, one, 0, inf},
		{api.FnFdiv, one, minZero, minusInf},
		{api.FnFdiv, minusOne, inf, minZero},
		{api.FnFdiv, one, three, 0x3FD5555555555555},
	})
}

// P2.1: the lesser and the greater float, where -0 is less than +0 and a NaN wins over everything.
func TestMinMax(t *testing.T) {
	checkExamples(t, []example{
		{api.FnFmin, one, two, one},
		{api.FnFmin, two, one, one},
		{api.FnFmin, minusOne, one, minusOne},
		{api.FnFmin, 0, minZero, minZero},
		{api.FnFmin, minZero, 0, minZero},
		{api.FnFmin, 0, 0, 0},
		{api.FnFmin, three, three, three},
		{api.FnFmin, minusInf, maxFloat, minusInf},
		{api.FnFmin, inf, maxFloat, maxFloat},
		{api.FnFmax, one, two, two},
		{api.FnFmax, two, one, two},
		{api.FnFmax, minusOne, one, one},
		{api.FnFmax, 0, minZero, 0},
		{api.FnFmax, minZero, 0, 0},
		{api.FnFmax, minZero, minZero, minZero},
		{api.FnFmax, three, three, three},
		{api.FnFmax, minusInf, maxFloat, maxFloat},
		{api.FnFmax, inf, maxFloat, inf},
	})
	for _, nan := range nans {
		for _, other := range []uint64{0, one, inf, minusInf, nan, 0xFFF0000000000001} {
			checkExamples(t, []example{
				{api.FnFmin, nan, other, api.NaN},
				{api.FnFmin, other, nan, api.NaN},
				{api.FnFmax, nan, other, api.NaN},
				{api.FnFmax, other, nan, api.NaN},
			})
		}
	}
}

// P2.1: the comparisons of floats.
func TestFloatComparisons(t *testing.T) {
	checkExamples(t, []example{
		{api.FnFeq, one, one, 1},
		{api.FnFeq, one, two, 0},
		{api.FnFeq, 0, minZero, 1},
		{api.FnFeq, minZero, 0, 1},
		{api.FnFeq, inf, inf, 1},
		{api.FnFeq, inf, minusInf, 0},
		{api.FnFlt, one, two, 1},
		{api.FnFlt, two, one, 0},
		{api.FnFlt, one, one, 0},
		{api.FnFlt, minusOne, one, 1},
		{api.FnFlt, one, minusOne, 0},
		{api.FnFlt, minZero, 0, 0},
		{api.FnFlt, 0, minZero, 0},
		{api.FnFlt, minusInf, inf, 1},
		{api.FnFlt, 0, tiny, 1},
	})
	for _, nan := range nans {
		for _, other := range []uint64{0, one, inf, minusInf, nan} {
			for _, fn := range []int{api.FnFeq, api.FnFlt} {
				checkExamples(t, []example{{fn, nan, other, 0}, {fn, other, nan, 0}})
			}
		}
	}
}

// P2.1: the float of a signed integer, rounded to nearest even.
func TestFromInt(t *testing.T) {
	checkExamples(t, []example{
		{api.FnFromInt, 0, 0, 0},
		{api.FnFromInt, 1, 0, one},
		{api.FnFromInt, all, 0, minusOne},
		{api.FnFromInt, 3, 0, three},
		{api.FnFromInt, 1 << 53, 0, 0x4340000000000000},
		{api.FnFromInt, 1<<53 + 1, 0, 0x4340000000000000},
		{api.FnFromInt, 1<<53 + 2, 0, 0x4340000000000001},
		{api.FnFromInt, 1<<53 + 3, 0, 0x4340000000000002},
		{api.FnFromInt, greatest, 0, 0x43E0000000000000},
		{api.FnFromInt, minZero, 0, 0xC3E0000000000000},
	})
}

// P2.1: the signed integer of a float, at the bounds and beyond.
func TestToInt(t *testing.T) {
	checkExamples(t, []example{
		{api.FnToInt, 0, 0, 0},
		{api.FnToInt, minZero, 0, 0},
		{api.FnToInt, one, 0, 1},
		{api.FnToInt, three, 0, 3},
		{api.FnToInt, minusOne, 0, all},
		{api.FnToInt, half, 0, 0},
		{api.FnToInt, 0x3FFFFFFFFFFFFFFF, 0, 1},   // just below 2
		{api.FnToInt, 0xBFFFFFFFFFFFFFFF, 0, all}, // just above -2
		{api.FnToInt, 0xBFE0000000000000, 0, 0},   // -0.5
		{api.FnToInt, 0x43DFFFFFFFFFFFFF, 0, 1<<63 - 1024},
		{api.FnToInt, 0x43E0000000000000, 0, greatest}, // 2^63
		{api.FnToInt, 0x43E0000000000001, 0, greatest},
		{api.FnToInt, 0x43F0000000000000, 0, greatest}, // 2^64
		{api.FnToInt, maxFloat, 0, greatest},
		{api.FnToInt, inf, 0, greatest},
		{api.FnToInt, 0xC3DFFFFFFFFFFFFF, 0, 1<<63 + 1024},
		{api.FnToInt, 0xC3E0000000000000, 0, minZero}, // -2^63
		{api.FnToInt, 0xC3E0000000000001, 0, minZero},
		{api.FnToInt, 0xC3F0000000000000, 0, minZero}, // -2^64
		{api.FnToInt, minusInf, 0, minZero},
	})
	for _, nan := range nans {
		checkExamples(t, []example{{api.FnToInt, nan, 0, 0}})
	}
}

// P2.1: fromint and toint do not depend on y.
func TestSecondWordDoesNotCount(t *testing.T) {
	for _, fn := range []int{api.FnFromInt, api.FnToInt} {
		for _, x := range samples {
			want := result(t, fn, x, 0)
			for _, y := range samples {
				if got := result(t, fn, x, y); got != want {
					t.Errorf("Apply(%d, %#x, %#x): %#x; want %#x", fn, x, y, got, want)
				}
			}
		}
	}
}

// P2.1: the example of the chapter.
func TestChapterExample(t *testing.T) {
	checkExamples(t, []example{
		{api.FnFdiv, 0, 0, api.NaN},
		{api.FnFmin, 0, math.Float64bits(math.Copysign(0, -1)), math.Float64bits(math.Copysign(0, -1))},
		{api.FnToInt, math.Float64bits(1e300), 0, 1<<63 - 1},
	})
}

// exact returns a finite result of a float function from big numbers, which round a quotient or a sum once only; ok is false if big numbers do not apply.
func exact(fn int, x, y uint64) (uint64, bool) {
	f, g := math.Float64frombits(x), math.Float64frombits(y)
	if !isFinite(f) || !isFinite(g) || f == 0 || g == 0 {
		return 0, false
	}
	p, q := new(big.Rat).SetFloat64(f), new(big.Rat).SetFloat64(g)
	switch fn {
	case api.FnFadd:
		p.Add(p, q)
	case api.FnFsub:
		p.Sub(p, q)
	case api.FnFmul:
		p.Mul(p, q)
	case api.FnFdiv:
		p.Quo(p, q)
	}
	w, _ := p.Float64()
	return math.Float64bits(w), p.Sign() != 0 && w != 0
}

func isFinite(f float64) bool {
	return !math.IsNaN(f) && !math.IsInf(f, 0)
}

// P2.1: the float operations are those of exact arithmetic, rounded once to nearest even.
func TestFloatsAreRoundedOnce(t *testing.T) {
	compared := 0
	for _, fn := range []int{api.FnFadd, api.FnFsub, api.FnFmul, api.FnFdiv} {
		for _, x := range samples {
			for _, y := range samples {
				want, ok := exact(fn, x, y)
				if !ok {
					continue
				}
				compared++
				if got := result(t, fn, x, y); got != want {
					t.Errorf("Apply(%d, %#x, %#x): %#x; want %#x", fn, x, y, got, want)
				}
			}
		}
	}
	if compared < 1000 {
		t.Errorf("only %d results compared", compared)
	}
}

// P2.1: ErrOp, with the word 0, for what is not a function.
func TestNoFunction(t *testing.T) {
	for _, fn := range noFunctions {
		for _, x := range samples {
			if w, e := alu.Apply(fn, x, 1); w != 0 || e != api.ErrOp {
				t.Errorf("Apply(%d, %#x, 1): %#x, error %d; want 0, ErrOp", fn, x, w, e)
			}
		}
	}
}

// P2.2: the names of the functions and the numbers of the names.
func TestNames(t *testing.T) {
	for fn, name := range map[int]string{
		api.FnAdd: "add", api.FnSub: "sub", api.FnMul: "mul", api.FnAnd: "and", api.FnOr: "or", api.FnXor: "xor",
		api.FnShl: "shl", api.FnShr: "shr", api.FnEq: "eq", api.FnNe: "ne", api.FnLt: "lt", api.FnLtu: "ltu",
		api.FnFadd: "fadd", api.FnFsub: "fsub", api.FnFmul: "fmul", api.FnFdiv: "fdiv", api.FnFmin: "fmin", api.FnFmax: "fmax",
		api.FnFeq: "feq", api.FnFlt: "flt", api.FnFromInt: "fromint", api.FnToInt: "toint",
	} {
		if got := alu.Name(fn); got != name {
			t.Errorf("Name(%d): %q; want %q", fn, got, name)
		}
		if got, ok := alu.Number(name); got != fn || !ok {
			t.Errorf("Number(%q): %d, %t; want %d", name, got, ok, fn)
		}
	}
}

// P2.2: no name for what is not a function, and no number for what is not a name.
func TestNoNames(t *testing.T) {
	for _, fn := range noFunctions {
		if got := alu.Name(fn); got != "" {
			t.Errorf("Name(%d): %q; want none", fn, got)
		}
	}
	for _, name := range []string{"", " ", "ad", "addd", "Add", "ADD", " add", "add ", "add\x00", "f add", "nop", "const", "0", "toInt", "ltu\n", "\xff", "äadd"} {
		if got, ok := alu.Number(name); got != 0 || ok {
			t.Errorf("Number(%q): %d, %t; want 0, false", name, got, ok)
		}
	}
}

// P2.3: sums and products are commutative.
func TestCommutative(t *testing.T) {
	for _, fn := range []int{api.FnAdd, api.FnMul, api.FnFadd, api.FnFmul} {
		for _, x := range samples {
			for _, y := range samples {
				if a, b := result(t, fn, x, y), result(t, fn, y, x); a != b {
					t.Errorf("Apply(%d, %#x, %#x): %#x; with the words exchanged %#x", fn, x, y, a, b)
				}
			}
		}
	}
}

// P2.3: fmin and fmax of two numbers are the two numbers.
func TestMinAndMaxAreTheNumbers(t *testing.T) {
	for _, x := range samples {
		for _, y := range samples {
			if isNaN(x) || isNaN(y) {
				continue
			}
			low, high := result(t, api.FnFmin, x, y), result(t, api.FnFmax, x, y)
			if !(low == x && high == y || low == y && high == x) {
				t.Errorf("fmin and fmax of %#x and %#x: %#x and %#x", x, y, low, high)
			}
		}
	}
}

// P2.3: a float function returns no NaN but api.NaN, also where an argument is another one. toint is not among them: its results are integers, as the greatest one in the chapter's example.
func TestOneNaN(t *testing.T) {
	words := append(append([]uint64{}, samples...), nans...)
	for _, fn := range []int{api.FnFadd, api.FnFsub, api.FnFmul, api.FnFdiv, api.FnFmin, api.FnFmax, api.FnFeq, api.FnFlt, api.FnFromInt} {
		for _, x := range words {
			for _, y := range words {
				w := result(t, fn, x, y)
				if isNaN(w) && w != api.NaN {
					t.Errorf("Apply(%d, %#x, %#x): the NaN %#x", fn, x, y, w)
				}
				if fn <= api.FnFmax && (isNaN(x) || isNaN(y)) && w != api.NaN {
					t.Errorf("Apply(%d, %#x, %#x): %#x; want NaN", fn, x, y, w)
				}
			}
		}
	}
}

func isNaN(w uint64) bool {
	return w>>52&0x7FF == 0x7FF && w<<12 != 0
}
