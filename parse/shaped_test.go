package parse

import (
	"math"
	"strings"
	"testing"

	"interleave/api"
)

// P2.3

func threadWith(body ...api.Stmt) api.Program {
	return api.Program{Threads: []api.Thread{{Name: "t", Body: body}}}
}

func wantShaped(t *testing.T, p api.Program, want bool) {
	t.Helper()
	if Shaped(p) != want {
		t.Errorf("Shaped is %v for %.400s", !want, show(p))
	}
}

// Strings of which the first is empty, isName of the others are names, and the rest is none.
var someNames = []string{"", "x", "Thread", strings.Repeat("n", api.MaxName), "if", "thread", "1", "_x", "x-", "x ", "é", strings.Repeat("n", api.MaxName+1)}

const isName = 3

func isSomeName(i int) bool { return i >= 1 && i <= isName }

func TestShapedExprNodes(t *testing.T) {
	operandsOf := map[int]int{api.ENum: 0, api.EName: 0, api.EIndex: 1, api.ENeg: 1, api.ENot: 1}
	for o := -2; o <= api.EOr+2; o++ {
		if o >= api.EAdd && o <= api.EOr {
			operandsOf[o] = 2
		}
		for i, s := range someNames {
			for _, n := range []int64{0, 1, -1, math.MaxInt64, math.MinInt64} {
				for count := range 5 {
					e := api.Expr{Op: o, N: n, Name: s}
					for range count {
						e.L = append(e.L, num(1))
					}
					needs, known := operandsOf[o]
					nameFits := i == 0 && o != api.EName && o != api.EIndex || isSomeName(i) && (o == api.EName || o == api.EIndex)
					numberFits := n == 0 || n > 0 && o == api.ENum
					want := known && count == needs && nameFits && numberFits
					if ShapedExpr(e) != want {
						t.Errorf("ShapedExpr is %v for %s", !want, showExpr(e))
					}
				}
			}
		}
	}
	for _, o := range []int{math.MaxInt, math.MinInt, 1 << 32, 1<<32 + 1} {
		if ShapedExpr(op(o)) || ShapedExpr(op(o, num(1))) || ShapedExpr(op(o, num(1), num(2))) {
			t.Errorf("ShapedExpr with operator %d is true", o)
		}
	}
}

// badExprs are expressions that are not shaped, each for one reason.
func badExprs() []api.Expr {
	return []api.Expr{
		{}, num(-1), {Op: api.ENum, Name: "x"}, {Op: api.ENum, L: []api.Expr{num(1)}},
		name(""), name("if"), {Op: api.EName, Name: "x", N: 1}, {Op: api.EName, Name: "x", L: []api.Expr{num(1)}},
		{Op: api.EIndex, Name: "x"}, element("", num(1)), {Op: api.EIndex, Name: "x", L: []api.Expr{num(1), num(1)}},
		op(api.ENeg), op(api.ENot, num(1), num(1)), op(api.EAdd, num(1)), op(api.EOr, num(1), num(1), num(1)), op(19, num(1), num(1)),
		{Op: api.EMul, N: 1, L: []api.Expr{num(1), num(1)}}, {Op: api.ENeg, Name: "x", L: []api.Expr{num(1)}},
	}
}

func TestEveryNodeOfAnExpressionCounts(t *testing.T) {
	places := []func(api.Expr) api.Expr{
		func(e api.Expr) api.Expr { return e },
		func(e api.Expr) api.Expr { return op(api.ENeg, e) },
		func(e api.Expr) api.Expr { return op(api.ENot, op(api.ENeg, e)) },
		func(e api.Expr) api.Expr { return element("x", e) },
		func(e api.Expr) api.Expr { return op(api.EAdd, e, num(1)) },
		func(e api.Expr) api.Expr { return op(api.EAdd, num(1), e) },
		func(e api.Expr) api.Expr {
			return op(api.EOr, op(api.ELt, num(1), op(api.EMul, name("x"), element("x", e))), num(2))
		},
	}
	for _, place := range places {
		good := place(element("x", num(0)))
		for _, p := range holders(good) {
			wantShaped(t, p, true)
		}
		if !ShapedExpr(good) {
			t.Errorf("ShapedExpr is false for %s", showExpr(good))
		}
		for _, e := range badExprs() {
			bad := place(e)
			for _, p := range holders(bad) {
				wantShaped(t, p, false)
			}
			if ShapedExpr(bad) {
				t.Errorf("ShapedExpr is true for %s", showExpr(bad))
			}
		}
	}
}

// holders returns programs with e at every place for an expression.
func holders(e api.Expr) []api.Program {
	return []api.Program{
		threadWith(api.Stmt{Op: api.SAssign, Name: "x", Expr: e}),
		threadWith(api.Stmt{Op: api.SAssign, Name: "x", Index: []api.Expr{num(1)}, Expr: e}),
		threadWith(api.Stmt{Op: api.SAssign, Name: "x", Index: []api.Expr{e}, Expr: num(1)}),
		threadWith(api.Stmt{Op: api.SIf, Expr: e}),
		threadWith(api.Stmt{Op: api.SWhile, Expr: e}),
		threadWith(api.Stmt{Op: api.SSet, Name: "f", Expr: e}),
	}
}

// The fields of each kind of statements, a second time: n Name, a Arg, i Index, e Expr, b Body, o Else.
var fieldsOf = map[int]string{
	api.SAssign: "nie", api.SIf: "ebo", api.SWhile: "eb", api.SLock: "nb", api.SRead: "nb", api.SWrite: "nb", api.STransaction: "b", api.SAtomic: "b",
	api.SWait: "n", api.SNotify: "n", api.SNotifyAll: "n", api.SSpawn: "n", api.SJoin: "n", api.SSet: "ne", api.SGet: "na",
}

func TestShapedStatements(t *testing.T) {
	bodies := [][]api.Stmt{nil, {}, {{Op: api.SAtomic}}, {{Op: api.SWait, Name: "c"}, {Op: api.SAtomic}}}
	indices := [][]api.Expr{nil, {}, {num(1)}, {num(1), num(1)}, {num(1), num(1), num(1)}}
	exprs := []api.Expr{{}, {L: []api.Expr{}}, num(0), name("x"), num(-1), {N: 1}, {Name: "x"}, {L: []api.Expr{num(0)}}}
	zero, shaped := 2, 4
	for o := -1; o <= api.SGet+2; o++ {
		letters, known := fieldsOf[o]
		has := func(c string) bool { return strings.Contains(letters, c) }
		nameFits := func(i int, c string) bool { return has(c) && isSomeName(i) || !has(c) && i == 0 }
		for n := range someNames {
			for a := range someNames {
				for i, index := range indices {
					for x, e := range exprs {
						for b := range len(bodies) * len(bodies) {
							body, other := bodies[b/len(bodies)], bodies[b%len(bodies)]
							want := known && nameFits(n, "n") && nameFits(a, "a") && (len(index) == 0 || has("i") && i == 2) &&
								(has("e") && x >= zero && x < shaped || !has("e") && x < zero) &&
								(has("b") || len(body) == 0) && (has("o") || len(other) == 0)
							s := api.Stmt{Op: o, Line: x, Name: someNames[n], Arg: someNames[a], Index: index, Expr: e, Body: body, Else: other}
							wantShaped(t, threadWith(s), want)
						}
					}
				}
			}
		}
	}
	for _, o := range []int{math.MaxInt, math.MinInt, 1<<32 + api.SAtomic} {
		wantShaped(t, threadWith(api.Stmt{Op: o}), false)
	}
}

// badStmts are statements that are not shaped, each for one reason.
func badStmts() []api.Stmt {
	atomic := []api.Stmt{{Op: api.SAtomic}}
	return []api.Stmt{
		{}, {Op: 16}, {Op: api.SAssign, Name: "x"}, {Op: api.SAssign, Expr: num(1)}, {Op: api.SAssign, Name: "x", Index: []api.Expr{{}}, Expr: num(1)},
		{Op: api.SIf}, {Op: api.SWhile, Expr: num(1), Else: atomic}, {Op: api.SLock}, {Op: api.SRead, Name: "if"}, {Op: api.SWrite, Name: "r", Else: atomic},
		{Op: api.STransaction, Name: "m"}, {Op: api.SAtomic, Expr: num(1)}, {Op: api.SWait, Name: "c", Arg: "m"}, {Op: api.SNotify, Name: "c", Body: atomic},
		{Op: api.SNotifyAll}, {Op: api.SSpawn, Name: "9"}, {Op: api.SJoin, Name: "u", Index: []api.Expr{num(1)}}, {Op: api.SSet, Name: "f"}, {Op: api.SGet, Name: "a"}, {Op: api.SGet, Arg: "f"},
	}
}

func TestEveryStatementCounts(t *testing.T) {
	good := api.Stmt{Op: api.SWait, Name: "c"}
	places := []func(api.Stmt) []api.Stmt{
		func(s api.Stmt) []api.Stmt { return []api.Stmt{s} },
		func(s api.Stmt) []api.Stmt { return []api.Stmt{good, s} },
		func(s api.Stmt) []api.Stmt { return []api.Stmt{s, good, good} },
		func(s api.Stmt) []api.Stmt { return []api.Stmt{{Op: api.SIf, Expr: num(1), Body: []api.Stmt{good, s}}} },
		func(s api.Stmt) []api.Stmt {
			return []api.Stmt{good, {Op: api.SIf, Expr: num(1), Body: []api.Stmt{good}, Else: []api.Stmt{s, good}}, good}
		},
	}
	for _, o := range []api.Stmt{{Op: api.SWhile, Expr: num(1)}, {Op: api.SLock, Name: "m"}, {Op: api.SRead, Name: "m"}, {Op: api.SWrite, Name: "m"}, {Op: api.STransaction}, {Op: api.SAtomic}} {
		places = append(places, func(s api.Stmt) []api.Stmt {
			o.Body = []api.Stmt{good, {Op: api.SAtomic, Body: []api.Stmt{s}}}
			return []api.Stmt{o}
		})
	}
	for _, place := range places {
		wantShaped(t, threadWith(place(good)...), true)
		wantShaped(t, threadWith(place(api.Stmt{Op: api.SAtomic})...), true)
		for _, s := range badStmts() {
			p := threadWith(place(s)...)
			wantShaped(t, p, false)
			// In a later thread it counts, too.
			p.Threads = append([]api.Thread{{Name: "u"}}, p.Threads...)
			wantShaped(t, p, false)
		}
	}
}

func TestShapedDeclarations(t *testing.T) {
	thread := []api.Thread{{Name: "t"}}
	for kind := -1; kind <= api.DFuture+2; kind++ {
		for n := range someNames {
			for on := range someNames {
				for _, size := range []int{0, 1, 4, 99, math.MaxInt, -1, math.MinInt} {
					for _, init := range []int64{0, 1, -1, math.MaxInt64, -math.MaxInt64, math.MinInt64} {
						want := kind >= api.DVar && kind <= api.DFuture && isSomeName(n) &&
							(kind == api.DCond && isSomeName(on) || kind != api.DCond && on == 0) &&
							(size == 0 || size > 0 && kind == api.DVar) &&
							(init == 0 || init != math.MinInt64 && (kind == api.DVar || kind == api.DVolatile))
						d := api.Decl{Kind: kind, Line: size, Name: someNames[n], Size: size, Init: init, On: someNames[on]}
						wantShaped(t, api.Program{Decls: []api.Decl{d}, Threads: thread}, want)
					}
				}
			}
		}
	}
	good, bad := api.Decl{Kind: api.DVar, Name: "x"}, api.Decl{Kind: api.DVar, Name: "x", Size: -1}
	wantShaped(t, api.Program{Decls: []api.Decl{good, good}, Threads: thread}, true)
	wantShaped(t, api.Program{Decls: []api.Decl{good, bad}, Threads: thread}, false)
	wantShaped(t, api.Program{Decls: []api.Decl{bad, good}, Threads: thread}, false)
}

func TestShapedThreads(t *testing.T) {
	wantShaped(t, api.Program{}, false)
	wantShaped(t, api.Program{Decls: []api.Decl{{Kind: api.DVar, Name: "x"}}, Threads: []api.Thread{}}, false)
	many := api.Program{}
	for i, s := range someNames {
		good := isSomeName(i)
		wantShaped(t, api.Program{Threads: []api.Thread{{Name: s}}}, good)
		wantShaped(t, api.Program{Threads: []api.Thread{{Name: "t"}, {Name: s}}}, good)
		wantShaped(t, api.Program{Threads: []api.Thread{{Name: "t", Locals: []string{s}}}}, good)
		wantShaped(t, api.Program{Threads: []api.Thread{{Name: "t", Locals: []string{"a", s, "a"}}, {Name: "t"}}}, good)
		many.Threads = append(many.Threads, api.Thread{Name: "t", Locals: []string{"a", "t", "a", "b", "c"}})
	}
	wantShaped(t, many, true)
}

func TestLinesMayBeAnyNumbers(t *testing.T) {
	for _, line := range []int{0, 1, -1, math.MaxInt, math.MinInt} {
		wantShaped(t, api.Program{
			Decls:   []api.Decl{{Kind: api.DMutex, Line: line, Name: "m"}},
			Threads: []api.Thread{{Name: "t", Line: line, Body: []api.Stmt{{Op: api.SLock, Line: line, Name: "m", Body: []api.Stmt{{Op: api.SAtomic, Line: -line}}}}}},
		}, true)
	}
}

// There is no limit of size: layer 4 counts.
func TestLargeProgramsAreShaped(t *testing.T) {
	s := api.Stmt{Op: api.SAssign, Name: "x", Expr: num(1)}
	for range 1000 {
		s.Expr = op(api.EAdd, s.Expr, num(1))
	}
	p := threadWith(s)
	for range 10000 {
		p.Threads[0].Body = append(p.Threads[0].Body, api.Stmt{Op: api.SWait, Name: "c"})
		p.Decls = append(p.Decls, api.Decl{Kind: api.DMutex, Name: "m"})
		p.Threads = append(p.Threads, api.Thread{Name: "t"})
		p.Threads[0].Locals = append(p.Threads[0].Locals, "a")
	}
	wantShaped(t, p, true)
	p.Threads[0].Body[10000].Name = ""
	wantShaped(t, p, false)
}
