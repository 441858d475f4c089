package eval

import (
	"math"
	"testing"

	"interleave/api"
	"interleave/format"
	"interleave/parse"
)

// P5.4

func num(n int64) api.Expr { return api.Expr{Op: api.ENum, N: n} }

func name(s string) api.Expr { return api.Expr{Op: api.EName, Name: s} }

func op(o int, l ...api.Expr) api.Expr { return api.Expr{Op: o, L: l} }

func element(s string, index api.Expr) api.Expr {
	return api.Expr{Op: api.EIndex, Name: s, L: []api.Expr{index}}
}

func expression(t *testing.T, s string) api.Expr {
	t.Helper()
	e, err, _ := parse.Expr(s)
	if err != api.OK {
		t.Fatalf("parse.Expr(%q): error %d", s, err)
	}
	return e
}

func wantValue(t *testing.T, e api.Expr, names []string, values []int64, want int64) {
	t.Helper()
	if got, ok := Expr(e, names, values); got != want || !ok {
		t.Errorf("%.300s = %d, %v; want %d", format.Expr(e), got, ok, want)
	}
}

func wantNone(t *testing.T, e api.Expr, names []string, values []int64) {
	t.Helper()
	if got, ok := Expr(e, names, values); got != 0 || ok {
		t.Errorf("%.300s (operator %d, %d operands) = %d, %v; want no value", format.Expr(e), e.Op, len(e.L), got, ok)
	}
}

func TestOrdinaryExpressions(t *testing.T) {
	names, values := []string{"a", "b", "zero", "low"}, []int64{10, 3, 0, low}
	for s, want := range map[string]int64{
		"a - 2 * b": 4, "a": 10, "b": 3, "zero": 0, "0": 0, "9223372036854775807": high, "-a": -10, "!a": 0, "!zero": 1, "!!a": 1,
		"a - b - 2": 5, "a - (b - 2)": 9, "b - a": -7, "a / b": 3, "b / a": 0, "-a / b": -3, "a % b": 1, "-a % b": -1, "b % a": 3,
		"a / zero": 0, "a % zero": 0, "zero / zero": 0, "1 + a / zero": 1, "low / -1": low, "low % -1": 0, "-low": low, "low - 1": high, "low * -1": low,
		"a == b": 0, "a != b": 1, "a < b": 0, "b < a": 1, "a <= a": 1, "a > b": 1, "b > a": 0, "b >= a": 0, "a >= a": 1, "low < a": 1,
		"a && b": 1, "zero && a": 0, "a && zero": 0, "zero || b": 1, "b || zero": 1, "zero || zero": 0,
		"(a > b) + (a > b) * 2": 3, "a * a + b * b": 109, "a * (a + b) * b": 390, "1 + 2 * 3 - 4 / 5 % 6": 7, "a < b || !(b == 3) || a % 2 == 0 && 1": 1,
	} {
		wantValue(t, expression(t, s), names, values, want)
	}
}

func TestNumbers(t *testing.T) {
	for _, n := range edges {
		wantValue(t, num(n), nil, nil, n)
		wantValue(t, op(api.ENeg, num(n)), nil, nil, -n)
		wantValue(t, name("x"), []string{"x"}, []int64{n}, n)
	}
}

func TestEachOperator(t *testing.T) {
	names := []string{"x", "y"}
	for _, a := range edges {
		values := []int64{a, 0}
		for o := api.ENeg; o <= api.ENot; o++ {
			wantValue(t, op(o, name("x")), names, values, specUnary(o, a))
			wantValue(t, op(o, num(a)), names, values, specUnary(o, a))
		}
		for _, b := range edges {
			values[1] = b
			for o := api.EAdd; o <= api.EOr; o++ {
				want := specBinary(o, a, b)
				wantValue(t, op(o, name("x"), name("y")), names, values, want)
				wantValue(t, op(o, num(a), num(b)), nil, nil, want)
				wantValue(t, op(api.ESub, op(o, num(a), name("y")), op(o, name("x"), num(b))), names, values, 0)
			}
		}
	}
}

func TestFirstOfTwoNamesDecides(t *testing.T) {
	names, values := []string{"a", "b", "a", "", "b", "a", ""}, []int64{1, 2, 3, 4, 5, 6, 7}
	for s, want := range map[string]int64{"a": 1, "b": 2, "": 4} {
		wantValue(t, name(s), names, values, want)
	}
	wantValue(t, op(api.EMul, name("a"), op(api.EAdd, name("b"), name("a"))), names, values, 3)
	wantValue(t, name("a"), []string{"a", "a"}, []int64{0, 9}, 0)
	wantValue(t, name("b"), []string{"a", "b", "b"}, []int64{9, 0, 9}, 0)
	// The first index decides even if it has no value, and a later one has none then.
	wantNone(t, name("b"), []string{"a", "b", "b", "b"}, []int64{1})
	wantValue(t, name("b"), []string{"b", "a", "b"}, []int64{1}, 1)
	wantValue(t, name("b"), []string{"b", "b"}, []int64{1}, 1)
}

func TestNamesWithoutValue(t *testing.T) {
	names, values := []string{"a", "b", "c"}, []int64{1, 2, 3}
	for _, s := range []string{"", "z", "A", "aa", "a ", "ab", "\xff"} {
		wantNone(t, name(s), names, values)
		wantNone(t, name(s), nil, nil)
		wantNone(t, name(s), nil, values)
	}
	// A number or an operator needs no values.
	for _, l := range [][]int64{nil, values[:1], values} {
		wantValue(t, expression(t, "1 + 2"), nil, l, 3)
		wantValue(t, expression(t, "1 + 2"), names, l, 3)
	}
}

func TestFewerAndMoreValuesThanNames(t *testing.T) {
	names, values := []string{"a", "b", "c"}, []int64{1, 2, 3, 4, 5}
	for n := range len(values) + 1 {
		for m := range len(names) + 1 {
			for k, s := range names {
				if k < n && k < m {
					wantValue(t, name(s), names[:m], values[:n], values[k])
					wantValue(t, op(api.EAdd, name(s), name("a")), names[:m], values[:n], values[k]+1)
				} else {
					wantNone(t, name(s), names[:m], values[:n])
					wantNone(t, op(api.EAdd, name(s), name("a")), names[:m], values[:n])
				}
			}
		}
	}
}

// Neither the limits of chapter 4 nor the names of chapter 1 apply.
func TestExpressionsThatAreNotShaped(t *testing.T) {
	long := "a name of more than twelve bytes"
	for _, s := range []string{"", "if", "1", long, "\xff\n", "+"} {
		wantValue(t, name(s), []string{"x", s}, []int64{1, 2}, 2)
	}
	wantNone(t, name(long[:12]), []string{long}, []int64{1})
	sum := name("x")
	for i := range int64(1000) {
		sum = op(api.EAdd, num(-i), op(api.ENeg, sum))
	}
	wantValue(t, sum, []string{"x"}, []int64{7}, 7-500)
}

func TestOtherFieldsDoNotMatter(t *testing.T) {
	names, values := []string{"x", "z"}, []int64{7, 8}
	for _, n := range edges {
		for _, s := range []string{"", "x", "unknown", "if"} {
			wantValue(t, api.Expr{Op: api.ENum, N: 3, Name: s}, names, values, 3)
			wantValue(t, api.Expr{Op: api.EName, N: n, Name: "z"}, names, values, 8)
			wantValue(t, api.Expr{Op: api.ENeg, N: n, Name: s, L: []api.Expr{num(3)}}, names, values, -3)
			wantValue(t, api.Expr{Op: api.ENot, N: n, Name: s, L: []api.Expr{num(3)}}, names, values, 0)
			for o := api.EAdd; o <= api.EOr; o++ {
				wantValue(t, api.Expr{Op: o, N: n, Name: s, L: []api.Expr{num(3), name("x")}}, names, values, specBinary(o, 3, 7))
			}
		}
	}
}

// wantNoneInside checks that an expression has no value, and that none has a value that contains it.
func wantNoneInside(t *testing.T, e api.Expr, names []string, values []int64) {
	t.Helper()
	wantNone(t, e, names, values)
	wantNone(t, op(api.ENeg, e), names, values)
	wantNone(t, op(api.ENot, op(api.ENot, e)), names, values)
	for o := api.EAdd; o <= api.EOr; o++ {
		// The other operand alone would tell the value of some operators.
		for _, n := range []int64{-1, 0, 1} {
			wantNone(t, op(o, e, num(n)), names, values)
			wantNone(t, op(o, num(n), e), names, values)
			wantNone(t, op(o, op(o, num(n), name("x")), op(o, e, num(n))), names, values)
		}
		wantNone(t, op(o, e, name("x")), names, values)
		wantNone(t, op(o, name("x"), e), names, values)
		wantNone(t, op(o, e, e), names, values)
	}
}

func TestOperandsWithoutValue(t *testing.T) {
	for _, x := range []int64{0, 1, -1} {
		names, values := []string{"x", "late"}, []int64{x}
		for _, e := range []api.Expr{name("y"), name(""), name("late"), element("x", num(0)), {}, {Op: -1}, op(19, num(1), num(2)), op(api.EAdd, num(1)), op(api.ENum, num(1))} {
			wantNoneInside(t, e, names, values)
		}
	}
}

func TestIndexedNames(t *testing.T) {
	names, values := []string{"a", "x"}, []int64{5, 0}
	for _, e := range []api.Expr{element("a", num(0)), element("a", name("x")), element("z", num(0)), element("", num(0)), element("a", element("a", num(0))), {Op: api.EIndex, Name: "a"}, {Op: api.EIndex, Name: "a", L: []api.Expr{num(0), num(0)}}} {
		wantNoneInside(t, e, names, values)
	}
}

// needed says how many operands each operator has.
func needed(o int) int {
	switch o {
	case api.ENum, api.EName:
		return 0
	case api.EIndex, api.ENeg, api.ENot:
		return 1
	}
	return 2
}

func TestNumbersOfOperands(t *testing.T) {
	names, values := []string{"x", ""}, []int64{7, 9}
	for o := api.ENum; o <= api.EOr; o++ {
		for n := range 6 {
			e := api.Expr{Op: o, N: 4, Name: "x"}
			for range n {
				e.L = append(e.L, num(2))
			}
			if n == needed(o) && o != api.EIndex {
				if _, ok := Expr(e, names, values); !ok {
					t.Errorf("operator %d has no value with %d operands", o, n)
				}
				continue
			}
			wantNoneInside(t, e, names, values)
			wantNone(t, api.Expr{Op: o, L: e.L}, names, values)
		}
	}
}

func TestNumbersThatAreNoOperators(t *testing.T) {
	names, values := []string{"x"}, []int64{7}
	for _, o := range noOperators {
		for n := range 4 {
			e := api.Expr{Op: o, N: 4, Name: "x"}
			for range n {
				e.L = append(e.L, num(2))
			}
			wantNoneInside(t, e, names, values)
		}
	}
	wantNone(t, api.Expr{}, nil, nil)
	wantNone(t, api.Expr{Op: math.MaxInt}, []string{""}, []int64{1})
}
