package eval

import (
	"math/rand/v2"
	"slices"
	"testing"

	"interleave/api"
)

// P5.4 on random expressions, against a second definition.

// specExpr returns the value of an expression that is a tree.
func specExpr(e api.Expr, names []string, values []int64) (int64, bool) {
	if e.Op < api.ENum || e.Op > api.EOr || len(e.L) != needed(e.Op) {
		return 0, false
	}
	var l []int64
	for _, operand := range e.L {
		v, ok := specExpr(operand, names, values)
		if !ok {
			return 0, false
		}
		l = append(l, v)
	}
	switch e.Op {
	case api.ENum:
		return e.N, true
	case api.EName:
		if k := slices.Index(names, e.Name); k >= 0 && k < len(values) {
			return values[k], true
		}
		return 0, false
	case api.EIndex:
		return 0, false
	case api.ENeg, api.ENot:
		return specUnary(e.Op, l[0]), true
	}
	return specBinary(e.Op, l[0], l[1]), true
}

// A maker makes up expressions. One choice of so many as slips is anything.
type maker struct {
	*rand.Rand
	slips int
}

func newMaker(seed uint64) *maker {
	return &maker{rand.New(rand.NewPCG(seed, 5)), 20 << (seed % 8)}
}

func (m *maker) slip() bool { return m.IntN(m.slips) == 0 }

func (m *maker) number() int64 {
	switch m.IntN(4) {
	case 0:
		return edges[m.IntN(len(edges))]
	case 1:
		return m.Int64N(1<<40) - 1<<39
	}
	return m.Int64N(7) - 3
}

func (m *maker) name() string {
	if m.slip() {
		return ""
	}
	return string(rune('a' + m.IntN(4)))
}

// variables returns names, some of them repeated, and values, once in a while fewer or more than names.
func (m *maker) variables() ([]string, []int64) {
	names := []string{"a", "b", "c", "d"}
	for m.IntN(2) == 0 {
		names = slices.Insert(names, m.IntN(len(names)+1), m.name())
	}
	n := len(names)
	if m.IntN(4) == 0 {
		n = m.IntN(n + 3)
	}
	var values []int64
	for range n {
		values = append(values, m.number())
	}
	return names, values
}

// operator returns one of package api, often an arithmetic one, because the values of the others are few.
func (m *maker) operator() int {
	if m.IntN(2) == 0 {
		return api.ENeg + m.IntN(api.EMod-api.ENeg+1)
	}
	return api.ENum + m.IntN(api.EOr)
}

func (m *maker) expr(depth int) api.Expr {
	e := api.Expr{Op: m.operator()}
	for e.Op == api.EIndex && !m.slip() || depth == 0 && e.Op > api.EName {
		e.Op = m.operator()
	}
	if e.Op == api.ENum || m.slip() {
		e.N = m.number()
	}
	if e.Op == api.EName || m.slip() {
		e.Name = m.name()
	}
	n := needed(e.Op)
	if m.slip() && m.slip() {
		e.Op = m.IntN(24) - 2
	}
	if m.slip() && m.slip() {
		n = m.IntN(4)
	}
	for range n {
		e.L = append(e.L, m.expr(max(depth-1, 0)))
	}
	return e
}

func TestRandomExpressions(t *testing.T) {
	values, none, different := 0, 0, map[int64]bool{}
	for seed := uint64(0); seed < 30000 && !t.Failed(); seed++ {
		m := newMaker(seed)
		names, numbers := m.variables()
		e := m.expr(6)
		if want, ok := specExpr(e, names, numbers); ok {
			wantValue(t, e, names, numbers, want)
			values++
			different[want] = true
		} else {
			wantNone(t, e, names, numbers)
			none++
		}
	}
	if values < 10000 || none < 5000 || len(different) < 1000 {
		t.Errorf("only %d expressions with %d values, and %d without one", values, len(different), none)
	}
}
