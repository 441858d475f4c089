package eval

import (
	"math"
	"math/big"
	"testing"

	"interleave/api"
)

const (
	low  = math.MinInt64
	high = math.MaxInt64
)

// edges are numbers at which operators change their ways.
var edges = []int64{low, low + 1, low + 2, low/2 - 1, low / 2, low/2 + 1, -3037000500, -1 << 32, math.MinInt32, -10, -7, -3, -2, -1, 0, 1, 2, 3, 7, 10, math.MaxInt32, 1 << 32, 3037000500, high / 2, high/2 + 1, high - 2, high - 1, high}

// noOperators are no operators of package api, or become some when bits are lost.
var noOperators = []int{math.MinInt, math.MinInt32, -256, -18, -4, -1, 0, 19, 20, 256 + api.EAdd, 1<<16 + api.ENot, 1<<32 + api.ENeg, 1<<32 + api.EAdd, math.MaxInt}

// others returns all operators but those of a list, and numbers that are none.
func others(known map[int]bool) []int {
	l := noOperators
	for op := api.ENum; op <= api.EOr; op++ {
		if !known[op] {
			l = append(l, op)
		}
	}
	return l
}

// wrapped returns the one int64 that equals n modulo 2^64.
func wrapped(n *big.Int) int64 {
	word := new(big.Int).Lsh(big.NewInt(1), 64)
	m := new(big.Int).Mod(n, word)
	if m.Bit(63) == 1 {
		m.Sub(m, word)
	}
	return m.Int64()
}

func oneIf(holds bool) *big.Int {
	if holds {
		return big.NewInt(1)
	}
	return new(big.Int)
}

// specUnary is a second definition of the unary operators.
func specUnary(op int, a int64) int64 {
	x := big.NewInt(a)
	if op == api.ENeg {
		return wrapped(x.Neg(x))
	}
	return wrapped(oneIf(x.Sign() == 0))
}

// specBinary is a second definition of the binary operators, with numbers of any size.
func specBinary(op int, a, b int64) int64 {
	x, y, z := big.NewInt(a), big.NewInt(b), new(big.Int)
	order := x.Cmp(y)
	both, none := x.Sign()*y.Sign() != 0, x.Sign() == 0 && y.Sign() == 0
	switch op {
	case api.EAdd:
		z.Add(x, y)
	case api.ESub:
		z.Sub(x, y)
	case api.EMul:
		z.Mul(x, y)
	case api.EDiv:
		if y.Sign() != 0 {
			z.Quo(x, y)
		}
	case api.EMod:
		if y.Sign() != 0 {
			z.Rem(x, y)
		}
	default:
		z = oneIf(map[int]bool{api.EEq: order == 0, api.ENe: order != 0, api.ELt: order < 0, api.ELe: order <= 0, api.EGt: order > 0, api.EGe: order >= 0, api.EAnd: both, api.EOr: !none}[op])
	}
	return wrapped(z)
}

func wantUnary(t *testing.T, op int, a, want int64) {
	t.Helper()
	if got, ok := Unary(op, a); got != want || !ok {
		t.Errorf("Unary(%d, %d) = %d, %v; want %d", op, a, got, ok, want)
	}
}

func wantBinary(t *testing.T, op int, a, b, want int64) {
	t.Helper()
	if got, ok := Binary(op, a, b); got != want || !ok {
		t.Errorf("Binary(%d, %d, %d) = %d, %v; want %d", op, a, b, got, ok, want)
	}
}

// P5.1

func TestUnary(t *testing.T) {
	for a, want := range map[int64][2]int64{5: {-5, 0}, -5: {5, 0}, 0: {0, 1}, 1: {-1, 0}, -1: {1, 0}, high: {-high, 0}, -high: {high, 0}, 1 << 32: {-1 << 32, 0}} {
		wantUnary(t, api.ENeg, a, want[0])
		wantUnary(t, api.ENot, a, want[1])
	}
	wantUnary(t, api.ENeg, low, low)
	wantUnary(t, api.ENot, low, 0)
	for _, a := range edges {
		wantUnary(t, api.ENeg, a, specUnary(api.ENeg, a))
		wantUnary(t, api.ENot, a, specUnary(api.ENot, a))
	}
}

func TestOperatorsThatAreNotUnary(t *testing.T) {
	for _, op := range others(map[int]bool{api.ENeg: true, api.ENot: true}) {
		for _, a := range edges {
			if got, ok := Unary(op, a); got != 0 || ok {
				t.Errorf("Unary(%d, %d) = %d, %v", op, a, got, ok)
			}
		}
	}
}

// P5.2

func TestArithmetic(t *testing.T) {
	for _, r := range []struct {
		op         int
		a, b, want int64
	}{
		{api.EAdd, 2, 3, 5}, {api.EAdd, 2, -3, -1}, {api.EAdd, high, 1, low}, {api.EAdd, low, -1, high}, {api.EAdd, high, high, -2}, {api.EAdd, low, low, 0}, {api.EAdd, low, high, -1},
		{api.ESub, 2, 3, -1}, {api.ESub, 3, 2, 1}, {api.ESub, low, 1, high}, {api.ESub, high, -1, low}, {api.ESub, 0, low, low}, {api.ESub, low, low, 0}, {api.ESub, high, low, -1},
		{api.EMul, 6, -7, -42}, {api.EMul, low, -1, low}, {api.EMul, -1, low, low}, {api.EMul, high, 2, -2}, {api.EMul, low, 2, 0}, {api.EMul, 1 << 32, 1 << 31, low}, {api.EMul, high, high, 1}, {api.EMul, low, low, 0},
		{api.EDiv, 7, 2, 3}, {api.EDiv, -7, 2, -3}, {api.EDiv, 7, -2, -3}, {api.EDiv, -7, -2, 3}, {api.EDiv, 1, 2, 0}, {api.EDiv, -1, 2, 0}, {api.EDiv, low, 1, low}, {api.EDiv, low, high, -1}, {api.EDiv, high, low, 0}, {api.EDiv, high, -1, -high},
		{api.EMod, 7, 3, 1}, {api.EMod, -7, 3, -1}, {api.EMod, 7, -3, 1}, {api.EMod, -7, -3, -1}, {api.EMod, 6, 3, 0}, {api.EMod, -6, 3, 0}, {api.EMod, low, high, -1}, {api.EMod, high, low, high}, {api.EMod, low, 2, 0},
		// The quotient that no int64 holds, and its remainder.
		{api.EDiv, low, -1, low}, {api.EMod, low, -1, 0}, {api.EMod, high, -1, 0},
	} {
		wantBinary(t, r.op, r.a, r.b, r.want)
	}
}

func TestDivisionByZero(t *testing.T) {
	wantBinary(t, api.EDiv, 5, 0, 0)
	wantBinary(t, api.EMod, 5, 0, 0)
	for _, a := range edges {
		wantBinary(t, api.EDiv, a, 0, 0)
		wantBinary(t, api.EMod, a, 0, 0)
	}
}

func TestComparisons(t *testing.T) {
	rows := []struct {
		a, b int64
		want [6]int64 // EEq, ENe, ELt, ELe, EGt, EGe
	}{
		{2, 2, [6]int64{1, 0, 0, 1, 0, 1}},
		{2, 3, [6]int64{0, 1, 1, 1, 0, 0}},
		{3, 2, [6]int64{0, 1, 0, 0, 1, 1}},
		{-3, 2, [6]int64{0, 1, 1, 1, 0, 0}},
		{0, 0, [6]int64{1, 0, 0, 1, 0, 1}},
		{low, high, [6]int64{0, 1, 1, 1, 0, 0}},
		{high, low, [6]int64{0, 1, 0, 0, 1, 1}},
		{low, low, [6]int64{1, 0, 0, 1, 0, 1}},
		{high, high - 1, [6]int64{0, 1, 0, 0, 1, 1}},
		{1, 1<<32 + 1, [6]int64{0, 1, 1, 1, 0, 0}},
	}
	for _, r := range rows {
		for i, want := range r.want {
			wantBinary(t, api.EEq+i, r.a, r.b, want)
		}
	}
}

func TestConnectives(t *testing.T) {
	for _, a := range []int64{0, 1, 2, 4, -1, low, high, 1 << 32} {
		wantBinary(t, api.EAnd, a, 0, 0)
		wantBinary(t, api.EAnd, 0, a, 0)
		for _, b := range []int64{1, 2, -1, low, high, 1 << 32} {
			// Not the bits of the numbers are connected.
			wantBinary(t, api.EOr, a, b, 1)
			wantBinary(t, api.EOr, b, a, 1)
			if a != 0 {
				wantBinary(t, api.EAnd, a, b, 1)
				wantBinary(t, api.EAnd, b, a, 1)
			}
		}
	}
	wantBinary(t, api.EOr, 0, 0, 0)
}

func TestBinaryAtAllEdges(t *testing.T) {
	for op := api.EAdd; op <= api.EOr; op++ {
		for _, a := range edges {
			for _, b := range edges {
				wantBinary(t, op, a, b, specBinary(op, a, b))
			}
		}
	}
}

func TestOperatorsThatAreNotBinary(t *testing.T) {
	binary := map[int]bool{}
	for op := api.EAdd; op <= api.EOr; op++ {
		binary[op] = true
	}
	for _, op := range others(binary) {
		for _, a := range edges {
			for _, b := range []int64{low, -1, 0, 1, 3, high} {
				if got, ok := Binary(op, a, b); got != 0 || ok {
					t.Errorf("Binary(%d, %d, %d) = %d, %v", op, a, b, got, ok)
				}
			}
		}
	}
}

// P5.3

func wantIndex(t *testing.T, i int64, n, want int) {
	t.Helper()
	if got := Index(i, n); got != want {
		t.Errorf("Index(%d, %d) = %d, want %d", i, n, got, want)
	}
}

func TestIndex(t *testing.T) {
	for i, want := range map[int64][4]int{ // of n = 1 to 4
		0: {0, 0, 0, 0}, 1: {0, 1, 1, 1}, 3: {0, 1, 0, 3}, 4: {0, 0, 1, 0}, 7: {0, 1, 1, 3}, high: {0, 1, 1, 3},
		-1: {0, 1, 2, 3}, -2: {0, 0, 1, 2}, -3: {0, 1, 0, 1}, -4: {0, 0, 2, 0}, -7: {0, 1, 2, 1}, low: {0, 0, 1, 0}, -high: {0, 1, 2, 1},
	} {
		for k, v := range want {
			wantIndex(t, i, k+1, v)
		}
	}
	wantIndex(t, low, high, high-1)
	wantIndex(t, -1, high, high-1)
	wantIndex(t, high, high, 0)
	wantIndex(t, -high, high, 0)
	wantIndex(t, high-1, high, high-1)
	wantIndex(t, 1<<33+5, 1<<33, 5)
	wantIndex(t, -1, 1<<33, 1<<33-1)
}

func TestIndexBelowOne(t *testing.T) {
	for _, n := range []int{0, -1, -2, -3, math.MinInt32, math.MinInt, math.MinInt + 1} {
		for _, i := range edges {
			wantIndex(t, i, n, 0)
		}
	}
}

func TestIndexAtAllEdges(t *testing.T) {
	for _, i := range edges {
		for _, n := range edges {
			if n > 0 {
				want := new(big.Int).Mod(big.NewInt(i), big.NewInt(n)) // never negative
				wantIndex(t, i, int(n), int(want.Int64()))
			}
		}
	}
}
