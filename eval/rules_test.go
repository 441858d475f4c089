package eval

import (
	"fmt"
	"slices"
	"strconv"
	"sync"
	"testing"

	"interleave/api"
)

// P1

func TestDeepExpressions(t *testing.T) {
	names, values := []string{"x"}, []int64{3}
	for _, depth := range []int64{100, 1 << 16, 1 << 18} {
		negated, left, right := name("x"), name("x"), name("x")
		badLeft, badRight, indexed := name("z"), name("z"), name("x")
		for range depth {
			negated = op(api.ENeg, negated)
			left, right = op(api.EAdd, left, num(1)), op(api.EAdd, num(1), right)
			badLeft, badRight = op(api.EMul, badLeft, num(0)), op(api.EMul, num(0), badRight)
			indexed = element("x", indexed)
		}
		wantValue(t, negated, names, values, 3)
		wantValue(t, left, names, values, 3+depth)
		wantValue(t, right, names, values, 3+depth)
		for _, e := range []api.Expr{badLeft, badRight, indexed} {
			if v, ok := Expr(e, names, values); v != 0 || ok {
				t.Errorf("depth %d: %d, %v", depth, v, ok)
			}
		}
	}
}

// Nobody can visit the nodes of these values one by one.
func TestValuesThatShareParts(t *testing.T) {
	names, values := []string{"x"}, []int64{3}
	sum, same, bad := name("x"), name("x"), name("z")
	for i := range 200 {
		sum, same, bad = op(api.EAdd, sum, sum), op(api.EOr, op(api.EAnd, same, same), same), op(api.EMul, bad, bad)
		want := int64(0)
		if i < 63 {
			want = 3 << (i + 1)
		}
		wantValue(t, sum, names, values, want)
		wantValue(t, same, names, values, 1)
		wantValue(t, op(api.ESub, num(5), sum), names, values, 5-want)
		for _, e := range []api.Expr{bad, op(api.EAdd, sum, bad), op(api.EOr, same, bad), op(api.EAnd, bad, same)} {
			if v, ok := Expr(e, names, values); v != 0 || ok {
				t.Errorf("height %d: %d, %v", i, v, ok)
			}
		}
	}
}

// One slice at several places is like several slices.
func TestSharedSlices(t *testing.T) {
	names, values := []string{"x"}, []int64{3}
	two := []api.Expr{num(10), name("x")}
	minus := op(api.ESub, two...)
	wantValue(t, op(api.EMul, minus, op(api.EAdd, two...)), names, values, 91)
	wantValue(t, op(api.EMul, op(api.ENeg, two[:1]...), op(api.ENeg, two[1:]...)), names, values, 30)
	wantValue(t, op(api.ESub, op(api.ENeg, two[1:]...), minus), names, values, -10)
	// Each operand of the second one is also a part of the first one.
	three := []api.Expr{num(1), op(api.ESub, two...), num(4)}
	wantValue(t, op(api.EAdd, op(api.EMul, three[:2]...), op(api.EMul, three[1:]...)), names, values, 35)
	right := []api.Expr{minus, num(0)}
	right[1] = op(api.ENeg, right[:1]...)
	wantValue(t, op(api.ESub, right...), names, values, 14)
	left := []api.Expr{num(0), minus}
	left[0] = op(api.ENeg, left[1:]...)
	wantValue(t, op(api.ESub, left...), names, values, -14)
	wantNone(t, op(api.EAdd, three...), names, values)
}

// No value is that of these expressions; the calls must end nevertheless.
func TestValuesThatContainThemselves(t *testing.T) {
	names, values := []string{"x"}, []int64{3}
	one, left, right, both := make([]api.Expr, 1), []api.Expr{num(0), num(0)}, []api.Expr{num(0), num(0)}, []api.Expr{num(0), num(0)}
	one[0] = op(api.ENeg, one...)
	left[0] = op(api.EAnd, left...)
	right[1] = op(api.EOr, right...)
	both[0] = op(api.EMul, both...)
	both[1] = op(api.EAdd, op(api.ENot, both[0]), op(api.ENot, op(api.ENeg, both[1:]...)))
	for i, e := range []api.Expr{one[0], left[0], right[1], both[0], both[1], op(api.ENeg, one...), op(api.EAnd, num(0), left[0]), op(api.EOr, right[1], num(1)), op(api.EMul, num(0), op(api.ENot, both...))} {
		if v, ok := Expr(e, names, values); v != 0 || ok {
			t.Errorf("expression %d: %d, %v", i, v, ok)
		}
	}
}

func TestLongLists(t *testing.T) {
	const n = 1 << 17
	var names []string
	var values []int64
	var sum api.Expr
	for i := range int64(n) {
		names, values = append(names, "x"+strconv.FormatInt(i, 10)), append(values, i)
		if i == 0 {
			sum = name(names[0])
		} else {
			sum = op(api.EAdd, sum, name(names[i]))
		}
	}
	wantValue(t, sum, names, values, n*(n-1)/2)
	wantValue(t, name(names[n-1]), names, values, n-1)
	if v, ok := Expr(sum, names, values[:n-1]); v != 0 || ok {
		t.Errorf("a name without a value: %d, %v", v, ok)
	}
	for o := api.ENum; o <= api.EOr; o++ {
		many := op(o, slices.Repeat([]api.Expr{num(1)}, n)...)
		if v, ok := Expr(many, names, values); v != 0 || ok {
			t.Errorf("many operands: %d, %v", v, ok)
		}
	}
}

// P2

// spare returns l with spare capacity that holds x.
func spare[T any](l []T, x T) []T {
	return slices.Concat(l, []T{x, x, x})[:len(l)]
}

func TestArgumentsStay(t *testing.T) {
	for _, bad := range []string{"b", "z"} {
		inner := spare([]api.Expr{name("a"), name(bad)}, api.Expr{Op: 99})
		e := op(api.EAdd, op(api.EDiv, inner...), op(api.ENeg, inner[:1]...))
		e.L = spare(e.L, num(-1))
		names, values := spare([]string{"b", "a", "b"}, "z"), spare([]int64{5, 17, 1}, 98)
		whole := func() string { return fmt.Sprint(e, e.L[:5], inner[:5], names[:6], values[:6]) }
		before := whole()
		if v, ok := Expr(e, names, values); ok != (bad == "b") || ok && v != 3-17 {
			t.Errorf("value %d, %v", v, ok)
		}
		if whole() != before {
			t.Error("an argument changed")
		}
		// Nothing is kept from the call above.
		if before, again := inner[0], values[0]; bad == "b" {
			inner[0], values[0] = num(6), 2
			wantValue(t, e, names, values, 3-6)
			inner[0], values[0] = before, again
			wantValue(t, e, names, values, 3-17)
		}
	}
}

// P3

func TestCallsAreIndependent(t *testing.T) {
	type call struct {
		e      api.Expr
		names  []string
		values []int64
		result string
	}
	result := func(c call) string {
		v, ok := Expr(c.e, c.names, c.values)
		return fmt.Sprint(v, ok)
	}
	var calls []call
	for seed := range uint64(300) {
		m := newMaker(seed)
		c := call{e: m.expr(6)}
		c.names, c.values = m.variables()
		c.result = result(c)
		calls = append(calls, c)
	}
	var wait sync.WaitGroup
	for range 8 {
		wait.Go(func() {
			for range 10 {
				for _, c := range calls {
					if got := result(c); got != c.result {
						t.Errorf("results %s and %s of one expression", got, c.result)
					}
				}
			}
		})
	}
	wait.Wait()
}

// P6

func TestNilAndEmptySlicesAreEquivalent(t *testing.T) {
	for _, l := range [][]api.Expr{nil, {}} {
		for _, names := range [][]string{nil, {}} {
			for _, values := range [][]int64{nil, {}} {
				wantValue(t, api.Expr{Op: api.ENum, N: 4, L: l}, names, values, 4)
				wantValue(t, api.Expr{Op: api.EName, Name: "x", L: l}, []string{"x"}, []int64{5}, 5)
				wantNone(t, name("x"), names, values)
				wantNone(t, name("x"), names, []int64{5})
				wantNone(t, name("x"), []string{"x"}, values)
				for o := api.EIndex; o <= api.EOr; o++ {
					wantNone(t, api.Expr{Op: o, Name: "x", L: l}, []string{"x"}, []int64{5})
				}
			}
		}
	}
}
