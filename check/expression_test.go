package check

import (
	"math"
	"strings"
	"testing"

	"interleave/api"
	"interleave/format"
)

// P4.1

func wantExpr(t *testing.T, p api.Program, thread int, e api.Expr, err api.Errno) {
	t.Helper()
	if got := Expr(p, thread, e); got != err {
		t.Errorf("error %d, want %d: thread %d, %.300s", got, err, thread, format.Expr(e))
	}
}

// exprProgram has the locals l in thread 0 and k in thread 1.
func exprProgram(t *testing.T) api.Program {
	return program(t, decls+"thread t(l) { }"+threads)
}

func num(n int64) api.Expr { return api.Expr{Op: api.ENum, N: n} }

func name(s string) api.Expr { return api.Expr{Op: api.EName, Name: s} }

func op(o int, l ...api.Expr) api.Expr { return api.Expr{Op: o, L: l} }

func element(s string, index api.Expr) api.Expr {
	return api.Expr{Op: api.EIndex, Name: s, L: []api.Expr{index}}
}

// unshapedExprs are not shaped, each for one reason.
func unshapedExprs() []api.Expr {
	return []api.Expr{
		{}, {Op: -1}, op(19, num(1), num(1)), num(-1), num(math.MinInt64), {Op: api.ENum, Name: "x"}, op(api.ENum, num(1)),
		name(""), name("if"), name("1"), name("longernames13"), {Op: api.EName, Name: "x", N: 1}, {Op: api.EName, Name: "x", L: []api.Expr{num(1)}},
		{Op: api.EIndex, Name: "a"}, element("", num(1)), {Op: api.EIndex, Name: "a", L: []api.Expr{num(1), num(1)}},
		op(api.ENeg), op(api.ENot, num(1), num(1)), {Op: api.ENeg, Name: "x", L: []api.Expr{num(1)}},
		op(api.EAdd, num(1)), op(api.EOr, num(1), num(1), num(1)), {Op: api.EMul, N: 1, L: []api.Expr{num(1), num(1)}},
	}
}

func TestExpressionsThatAreNotShaped(t *testing.T) {
	p := exprProgram(t)
	for _, e := range unshapedExprs() {
		large := e
		for range 30 {
			large = op(api.EAdd, op(api.EAdd, name("z"), name("m")), large)
		}
		// The error goes ahead of all others.
		for _, e := range []api.Expr{e, op(api.ENot, e), element("a", e), element("m", e), op(api.EAdd, name("z"), e), op(api.EAdd, e, name("m")), large} {
			wantExpr(t, p, 0, e, api.ErrSyntax)
			wantExpr(t, p, -1, e, api.ErrSyntax)
			wantExpr(t, api.Program{}, 0, e, api.ErrSyntax)
		}
	}
}

// ofNodes returns an expression of n nodes, of which as few as possible are within one another.
func ofNodes(n int) api.Expr {
	switch n {
	case 1:
		return name("x")
	case 2:
		return op(api.ENeg, num(1))
	}
	return op(api.ESub, ofNodes(n/2), ofNodes(n-1-n/2))
}

func TestNumberOfNodes(t *testing.T) {
	p := exprProgram(t)
	for n := 1; n < 60; n++ {
		err := errorIf(n > api.MaxNodes, api.ErrTooLarge)
		wantExpr(t, p, 0, ofNodes(n), err)
		if n > 1 {
			wantExpr(t, p, 0, op(api.ENot, ofNodes(n-1)), err)
			wantExpr(t, p, 0, element("a", ofNodes(n-1)), err)
		}
	}
	balanced := "((x + 1) * (x - 1) + (x / 1) % (l - v))" // 15 nodes
	wantExpr(t, p, 0, expression(t, balanced+" && (x < 1 || v > a[1])"), api.OK)
	wantExpr(t, p, 0, expression(t, balanced+" && (x < 1 || -v > a[1])"), api.ErrTooLarge)
}

// within returns n nodes within one another, of which the innermost is e, with each operator at each operand.
func within(e api.Expr, n int) []api.Expr {
	var all []api.Expr
	for o := api.EIndex; o <= api.EOr; o++ {
		left, right := e, e
		for range n - 1 {
			switch o {
			case api.EIndex:
				left = element("a", left)
				right = left
			case api.ENeg, api.ENot:
				left, right = op(o, left), op(o, right)
			default:
				left, right = op(o, left, name("x")), op(o, num(1), right)
			}
		}
		all = append(all, left, right)
	}
	return all
}

func TestDepthOfNodes(t *testing.T) {
	p := exprProgram(t)
	for n := 1; n < 15; n++ {
		for _, e := range within(name("l"), n) {
			wantExpr(t, p, 0, e, errorIf(n > api.MaxDepth, api.ErrTooLarge))
		}
	}
	wantExpr(t, p, 0, expression(t, "a[-(x + !(1 - l))]"), api.OK)
	wantExpr(t, p, 0, expression(t, "a[-(x + !(1 - -l))]"), api.ErrTooLarge)
	// Parentheses are no nodes.
	wantExpr(t, p, 0, expression(t, strings.Repeat("(", 50)+"l"+strings.Repeat(")", 50)), api.OK)
}

func TestTooLargeGoesAheadOfNames(t *testing.T) {
	p := exprProgram(t)
	for _, s := range []string{"z", "m", "z[1]", "m[1]", "x[1]"} {
		e := expression(t, s)
		for _, deep := range within(e, api.MaxDepth+1) {
			wantExpr(t, p, 0, deep, api.ErrTooLarge)
		}
		wantExpr(t, p, 0, op(api.EAdd, e, ofNodes(api.MaxNodes)), api.ErrTooLarge)
		wantExpr(t, p, 0, op(api.EAdd, e, ofNodes(10)), errorOf(e.Name, ""))
	}
}

func TestKindsOfNames(t *testing.T) {
	p := exprProgram(t)
	for _, s := range allNames {
		plain, indexed := errorOf(s, "l x v"), errorOf(s, "a")
		wantExpr(t, p, 0, name(s), plain)
		wantExpr(t, p, 0, element(s, num(1)), indexed)
		// At each operand of each operator the same is told.
		for n := 2; n <= api.MaxDepth-1; n++ {
			for _, e := range within(name(s), n) {
				wantExpr(t, p, 0, e, plain)
			}
			for _, e := range within(element(s, name("v")), n) {
				wantExpr(t, p, 0, e, indexed)
			}
		}
	}
	for _, s := range []string{"n", "q", "g", "w", "t"} {
		wantExpr(t, p, 0, name(s), api.ErrKind)
		wantExpr(t, p, 0, element(s, num(1)), api.ErrKind)
	}
	// Names are told apart by all of their bytes.
	for _, s := range []string{"X", "xx", "l1", "L", "x_"} {
		wantExpr(t, p, 0, name(s), api.ErrUndefined)
	}
}

func TestLocalsOfThreads(t *testing.T) {
	p := exprProgram(t)
	for _, thread := range []int{math.MinInt, -2, -1, 0, 1, 2, 3, 4, 1 << 32, math.MaxInt} {
		wantExpr(t, p, thread, name("l"), errorIf(thread != 0, api.ErrUndefined))
		wantExpr(t, p, thread, name("k"), errorIf(thread != 1, api.ErrUndefined))
		wantExpr(t, p, thread, element("l", num(1)), max(api.ErrUndefined, errorIf(thread == 0, api.ErrKind)))
		wantExpr(t, p, thread, expression(t, "x + v * a[x]"), api.OK)
		wantExpr(t, p, thread, name("m"), api.ErrKind)
		wantExpr(t, p, thread, name("u"), api.ErrKind)
		wantExpr(t, p, thread, name("z"), api.ErrUndefined)
		wantExpr(t, api.Program{}, thread, name("x"), api.ErrUndefined)
		wantExpr(t, api.Program{}, thread, num(1), api.OK)
	}
	many := api.Program{Threads: []api.Thread{{Name: "t", Locals: strings.Fields("b c d e f g h b")}}}
	for _, s := range many.Threads[0].Locals {
		wantExpr(t, many, 0, name(s), api.OK)
	}
}

func TestFirstNodeDecides(t *testing.T) {
	p := exprProgram(t)
	for s, err := range map[string]api.Errno{
		"z + m": api.ErrUndefined, "m + z": api.ErrKind, "x + z + m": api.ErrUndefined, "x + m + z": api.ErrKind,
		"m[z]": api.ErrKind, "z[m]": api.ErrUndefined, "a[z] + m": api.ErrUndefined, "a[m] + z": api.ErrKind,
		"x[z]": api.ErrKind, "l[z]": api.ErrKind, "z[x[1]]": api.ErrUndefined, "a[a[z]] * a": api.ErrUndefined, "a[a] * z": api.ErrKind,
		"-z * !m": api.ErrUndefined, "-m * !z": api.ErrKind, "x * (m + z)": api.ErrKind, "(l - (v - z)) * m": api.ErrUndefined,
		"a[1] && (l || !(x < u)) && z": api.ErrKind, "a[1] && (l || !(x < z)) && u": api.ErrUndefined,
	} {
		wantExpr(t, p, 0, expression(t, s), err)
	}
}

// A program need not have passed Program.
func TestNamesWithSeveralMeanings(t *testing.T) {
	scalar, array := api.Decl{Kind: api.DVar, Name: "x"}, api.Decl{Kind: api.DVar, Name: "x", Size: 2}
	mutex := api.Decl{Kind: api.DMutex, Name: "x"}
	with := api.Thread{Name: "t", Locals: []string{"y", "x"}}
	without := api.Thread{Name: "x", Locals: []string{"y"}}
	rows := []struct {
		decls           []api.Decl
		threads         []api.Thread
		plain, indexed  api.Errno // in the first thread
		plain1, indexd1 api.Errno // in the second one, or in none
	}{
		{[]api.Decl{scalar}, []api.Thread{with, without}, api.OK, api.ErrKind, api.OK, api.ErrKind},
		{[]api.Decl{array}, []api.Thread{with, without}, api.OK, api.ErrKind, api.ErrKind, api.OK},
		{[]api.Decl{mutex}, []api.Thread{with, without}, api.OK, api.ErrKind, api.ErrKind, api.ErrKind},
		{nil, []api.Thread{with, without}, api.OK, api.ErrKind, api.ErrKind, api.ErrKind},
		{[]api.Decl{scalar, array}, []api.Thread{without, without}, api.OK, api.ErrKind, api.OK, api.ErrKind},
		{[]api.Decl{array, scalar}, []api.Thread{without, without}, api.ErrKind, api.OK, api.ErrKind, api.OK},
		{[]api.Decl{mutex, scalar, array}, []api.Thread{without}, api.ErrKind, api.ErrKind, api.ErrKind, api.ErrKind},
		{[]api.Decl{scalar, mutex}, []api.Thread{without}, api.OK, api.ErrKind, api.OK, api.ErrKind},
		{[]api.Decl{array, array, mutex}, []api.Thread{with, with}, api.OK, api.ErrKind, api.OK, api.ErrKind},
	}
	for _, r := range rows {
		p := api.Program{Decls: r.decls, Threads: r.threads}
		wantExpr(t, p, 0, name("x"), r.plain)
		wantExpr(t, p, 0, element("x", num(1)), r.indexed)
		wantExpr(t, p, 1, name("x"), r.plain1)
		wantExpr(t, p, 1, element("x", num(1)), r.indexd1)
	}
}

// The declarations of a program that is not shaped are names, too.
func TestDeclarationsThatAreNotShaped(t *testing.T) {
	for kind, errs := range map[int][2]api.Errno{
		api.DVar: {api.ErrKind, api.OK}, api.DVolatile: {api.OK, api.ErrKind}, api.DMutex: {api.ErrKind, api.ErrKind},
		0: {api.ErrKind, api.ErrKind}, 7: {api.ErrKind, api.ErrKind}, -1: {api.ErrKind, api.ErrKind}, math.MaxInt: {api.ErrKind, api.ErrKind},
	} {
		for _, size := range []int{-1, 3, math.MinInt, math.MaxInt} {
			p := api.Program{Decls: []api.Decl{{Kind: kind, Name: "x", Size: size}}}
			wantExpr(t, p, 0, name("x"), errs[0])
			wantExpr(t, p, 0, element("x", num(1)), errs[1])
		}
	}
}
