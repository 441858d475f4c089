package check

import (
	"fmt"
	"math"
	"slices"
	"strconv"
	"sync"
	"testing"

	"interleave/api"
	"interleave/parse"
)

// withBody returns exprProgram with a body of its second thread.
func withBody(t *testing.T, body ...api.Stmt) api.Program {
	p := exprProgram(t)
	p.Threads[1].Body = body
	return p
}

// wantEverywhere checks an expression by itself and at every place of a statement.
func wantEverywhere(t *testing.T, e api.Expr, err api.Errno) {
	t.Helper()
	p := exprProgram(t)
	for thread := -1; thread < 4; thread++ {
		if got := Expr(p, thread, e); got != err {
			t.Errorf("thread %d: error %d, want %d", thread, got, err)
		}
	}
	line := 9
	if err == api.ErrSyntax || err == api.OK {
		line = 0
	}
	for _, s := range []api.Stmt{
		{Op: api.SAssign, Name: "x", Expr: e},
		{Op: api.SAssign, Name: "a", Index: []api.Expr{num(1)}, Expr: e},
		{Op: api.SAssign, Name: "a", Index: []api.Expr{e}, Expr: num(1)},
		{Op: api.SIf, Expr: e},
		{Op: api.SWhile, Expr: e},
		{Op: api.SSet, Name: "f", Expr: e},
	} {
		s.Line = 9
		for _, body := range [][]api.Stmt{{s}, {{Op: api.SAtomic, Body: []api.Stmt{{Op: api.SIf, Expr: num(1), Else: []api.Stmt{s}}}}}} {
			wantError(t, withBody(t, body...), err, line)
		}
	}
}

func wantError(t *testing.T, p api.Program, err api.Errno, line int) {
	t.Helper()
	if gotErr, gotLine := Program(p); gotErr != err || gotLine != line {
		t.Errorf("error %d, line %d; want error %d, line %d", gotErr, gotLine, err, line)
	}
}

// P1

func TestDeepExpressions(t *testing.T) {
	for _, depth := range []int{api.MaxDepth, 100, 1 << 16} {
		for _, o := range []int{api.EIndex, api.ENot, api.EAdd} {
			left, right, bad := name("z"), name("z"), num(-1)
			for range depth {
				switch o {
				case api.EIndex:
					left, right, bad = element("a", left), element("z", right), element("a", bad)
				case api.ENot:
					left, right, bad = op(o, left), op(o, right), op(o, bad)
				default:
					left, right, bad = op(o, left, num(1)), op(o, num(1), right), op(o, num(1), bad)
				}
			}
			wantEverywhere(t, left, api.ErrTooLarge)
			wantEverywhere(t, right, api.ErrTooLarge)
			wantEverywhere(t, bad, api.ErrSyntax)
		}
	}
}

func TestDeepStatements(t *testing.T) {
	for _, depth := range []int{api.MaxStmts, 100, 1 << 16} {
		good, bad := api.Stmt{Op: api.SWait, Name: "z"}, api.Stmt{Op: api.SWait, Name: "if"}
		for i := range depth {
			if i%2 == 0 {
				good, bad = api.Stmt{Op: api.SAtomic, Body: []api.Stmt{good}}, api.Stmt{Op: api.SAtomic, Body: []api.Stmt{bad}}
			} else {
				good, bad = api.Stmt{Op: api.SIf, Expr: num(1), Else: []api.Stmt{good}}, api.Stmt{Op: api.SIf, Expr: num(1), Else: []api.Stmt{bad}}
			}
		}
		wantError(t, withBody(t, good), api.ErrTooLarge, 0)
		wantError(t, withBody(t, bad), api.ErrSyntax, 0)
	}
}

// Nobody can visit the nodes of these values one by one.
func TestValuesThatShareParts(t *testing.T) {
	e, bad, s := name("x"), num(-1), api.Stmt{Op: api.SAtomic}
	for range 200 {
		e, bad = op(api.EAdd, e, e), op(api.EMul, e, bad)
		s = api.Stmt{Op: api.SIf, Expr: e, Body: []api.Stmt{s, s}, Else: []api.Stmt{s}}
	}
	wantEverywhere(t, e, api.ErrTooLarge)
	wantEverywhere(t, op(api.ESub, name("z"), e), api.ErrTooLarge)
	wantEverywhere(t, bad, api.ErrSyntax)
	wantError(t, withBody(t, s), api.ErrTooLarge, 0)
	wantError(t, withBody(t, api.Stmt{Op: api.SIf, Line: 5, Expr: e}), api.ErrTooLarge, 5)
	wantError(t, withBody(t, s, api.Stmt{Op: api.SWait}), api.ErrSyntax, 0)
	// One slice at several places is like several slices.
	two := []api.Expr{num(1), name("x")}
	wantEverywhere(t, op(api.EAdd, op(api.EAdd, two...), op(api.EAdd, op(api.ENeg, two[:1]...), op(api.ENot, two[1:]...))), api.OK)
	eleven := []api.Expr{ofNodes(4), ofNodes(6)}
	wantEverywhere(t, op(api.EAdd, op(api.EAdd, eleven...), op(api.EMul, eleven...)), api.OK)
	wantEverywhere(t, op(api.ENot, op(api.EAdd, op(api.EAdd, eleven...), op(api.EMul, eleven...))), api.OK)
	wantEverywhere(t, op(api.ENeg, op(api.ENot, op(api.EAdd, op(api.EAdd, eleven...), op(api.EMul, eleven...)))), api.ErrTooLarge)
	body := []api.Stmt{{Op: api.SAtomic, Line: 3}, {Op: api.SSet, Line: 4, Name: "f", Expr: num(1)}}
	wantError(t, withBody(t, api.Stmt{Op: api.SIf, Line: 2, Expr: num(1), Body: body, Else: body}), api.ErrOnce, 4)
	wantError(t, withBody(t, api.Stmt{Op: api.SIf, Line: 2, Expr: num(1), Body: body, Else: body[:1]}), api.OK, 0)
	all := slices.Repeat([]api.Stmt{{Op: api.SIf, Expr: num(1), Body: body[:1], Else: body[:1]}}, api.MaxStmts/3)
	wantError(t, withBody(t, all...), api.OK, 0)
	wantError(t, withBody(t, append(all, body[0])...), api.ErrTooLarge, 0)
}

// No text denotes these values; the calls must end nevertheless.
func TestValuesThatContainThemselves(t *testing.T) {
	one, two := make([]api.Expr, 1), []api.Expr{num(1), num(1)}
	one[0] = op(api.ENeg, one...)
	two[1] = op(api.EAdd, two...)
	for _, e := range []api.Expr{one[0], two[1], op(api.ESub, name("z"), one[0]), element("m", two[1])} {
		wantEverywhere(t, e, api.ErrSyntax)
	}
	body := []api.Stmt{{Op: api.SAtomic}, {Op: api.SAtomic}}
	body[1] = api.Stmt{Op: api.SIf, Expr: num(1), Body: body[:1], Else: body}
	wantError(t, withBody(t, body...), api.ErrSyntax, 0)
	wantError(t, withBody(t, api.Stmt{Op: api.SLock, Name: "m", Body: body}), api.ErrSyntax, 0)
}

func TestLongLists(t *testing.T) {
	const n = 1 << 18
	p := exprProgram(t)
	p.Threads[0].Body = slices.Repeat([]api.Stmt{{Op: api.SWait, Name: "c"}}, n)
	wantError(t, p, api.ErrTooLarge, 0)
	p.Threads[2].Line = 3
	p.Threads[2].Locals = make([]string, n)
	for i := range p.Threads[2].Locals {
		p.Threads[2].Locals[i] = "l" + strconv.Itoa(i)
	}
	wantError(t, p, api.ErrTooLarge, 3)
	if err := Expr(p, 2, name("l"+strconv.Itoa(n-1))); err != api.OK {
		t.Errorf("the last local: error %d", err)
	}
	p.Threads = slices.Repeat(p.Threads[1:2], n)
	wantError(t, p, api.ErrTooLarge, 0)
	for i := range n {
		p.Decls = append(p.Decls, api.Decl{Kind: api.DMutex, Line: i + 1, Name: "m" + strconv.Itoa(i)})
	}
	wantError(t, p, api.ErrTooLarge, 1)
	if err := Expr(p, 0, name("m"+strconv.Itoa(n-1))); err != api.ErrKind {
		t.Errorf("the last declaration: error %d", err)
	}
	wantEverywhere(t, op(api.EAdd, slices.Repeat([]api.Expr{num(1)}, n)...), api.ErrSyntax)
}

// All numbers and names in a program that is not shaped.
func TestAnyValues(t *testing.T) {
	numbers := []int{math.MinInt, math.MinInt32, -2, -1, 1 << 32, 1<<32 + 1, math.MaxInt}
	for o := range 24 {
		numbers = append(numbers, o)
	}
	texts := []string{"", "x", "m", "if", "\xff\n", "longernames13"}
	for _, o := range numbers {
		for _, s := range texts {
			e := api.Expr{Op: o, N: int64(o), Name: s, L: []api.Expr{{Op: o}}}
			p := api.Program{
				Decls:   []api.Decl{{Kind: o, Name: s, Size: o, Init: int64(o), On: s}, {Kind: api.DVar, Name: "x", Size: o}, {Kind: api.DCond, Name: "y", On: s}},
				Threads: []api.Thread{{Name: s, Locals: []string{s, s}, Body: []api.Stmt{{Op: o, Name: s, Arg: s, Index: []api.Expr{e, e}, Expr: e, Body: []api.Stmt{{Op: o}}, Else: []api.Stmt{{Op: o}}}}}},
			}
			for _, thread := range numbers {
				for _, x := range []api.Expr{e, name("x"), element("x", name("m")), name(s), {Op: o}} {
					if got := Expr(p, thread, x); (got == api.ErrSyntax) == parse.ShapedExpr(x) {
						t.Errorf("error %d of operator %d, %q", got, x.Op, x.Name)
					}
				}
			}
			if err, line := Program(p); (err == api.ErrSyntax) == parse.Shaped(p) || err == api.OK || line != 0 {
				t.Errorf("error %d, line %d: number %d, %q", err, line, o, s)
			}
		}
	}
}

// P2

// spare returns l with spare capacity that holds x.
func spare[T any](l []T, x T) []T {
	return slices.Concat(l, []T{x, x, x})[:len(l)]
}

func TestArgumentsStay(t *testing.T) {
	for _, bad := range []string{"x", "z"} {
		e := op(api.EAdd, name("l"), element("a", name(bad)))
		e.L = spare(e.L, num(-1))
		inner := spare([]api.Stmt{{Op: api.SSet, Name: "f", Expr: e}}, api.Stmt{Op: 99})
		s := api.Stmt{Op: api.SIf, Expr: e, Body: inner, Else: spare([]api.Stmt{{Op: api.SAtomic}}, api.Stmt{Op: 98})}
		assign := api.Stmt{Op: api.SAssign, Name: "a", Index: spare([]api.Expr{e}, num(-2)), Expr: e}
		p := api.Program{
			Decls:   spare([]api.Decl{{Kind: api.DVar, Name: "x"}, {Kind: api.DVar, Name: "a", Size: 2}, {Kind: api.DMutex, Name: "m"}, {Kind: api.DCond, Name: "c", On: "m"}, {Kind: api.DFuture, Name: "f"}}, api.Decl{Kind: 97}),
			Threads: spare([]api.Thread{{Name: "t", Locals: spare([]string{"l"}, "l"), Body: spare([]api.Stmt{s, assign}, api.Stmt{Op: 96})}}, api.Thread{Name: "t"}),
		}
		whole := func() string {
			x := p.Threads[0]
			return fmt.Sprint(p.Decls[:8], p.Threads[:4], x.Locals[:4], x.Body[:5], inner[:4], s.Else[:4], assign.Index[:4], e.L[:5])
		}
		before := whole()
		if err := Expr(p, 0, e); (err == api.OK) != (bad == "x") {
			t.Errorf("Expr: error %d", err)
		}
		if err, _ := Program(p); (err == api.OK) != (bad == "x") {
			t.Errorf("Program: error %d", err)
		}
		if whole() != before {
			t.Error("an argument changed")
		}
	}
}

// P3

func TestCallsAreIndependent(t *testing.T) {
	var programs []api.Program
	var results []string
	result := func(p api.Program) string {
		err, line := Program(p)
		return fmt.Sprint(err, line, Expr(p, 0, name("l")), Expr(p, 1, element("a", name("k"))))
	}
	for seed := range uint64(50) {
		p := newMaker(seed).program()
		programs, results = append(programs, p), append(results, result(p))
	}
	var wait sync.WaitGroup
	for range 8 {
		wait.Go(func() {
			for range 10 {
				for i, p := range programs {
					if got := result(p); got != results[i] {
						t.Errorf("results %s and %s for one program", got, results[i])
					}
				}
			}
		})
	}
	wait.Wait()
}

// P6

// pad turns the nil slices of statements into empty ones.
func pad(l []api.Stmt) []api.Stmt {
	all := []api.Stmt{}
	for _, s := range l {
		if len(s.Index) == 0 {
			s.Index = []api.Expr{}
		}
		if len(s.Expr.L) == 0 {
			s.Expr.L = []api.Expr{}
		}
		s.Body, s.Else = pad(s.Body), pad(s.Else)
		all = append(all, s)
	}
	return all
}

func TestNilAndEmptySlicesAreEquivalent(t *testing.T) {
	wantError(t, api.Program{Decls: []api.Decl{}, Threads: []api.Thread{}}, api.ErrSyntax, 0)
	wantError(t, api.Program{Decls: []api.Decl{}, Threads: []api.Thread{{Name: "t", Locals: []string{}, Body: []api.Stmt{}}}}, api.OK, 0)
	for seed := range uint64(500) {
		p := newMaker(seed).program()
		err, line := Program(p)
		for i := range p.Threads {
			p.Threads[i].Body = pad(p.Threads[i].Body)
		}
		wantValue(t, p, err, line)
	}
	for _, l := range [][]api.Expr{nil, {}} {
		wantEverywhere(t, api.Expr{Op: api.ENum, N: 1, L: l}, api.OK)
		wantEverywhere(t, api.Expr{Op: api.EName, Name: "v", L: l}, api.OK)
		wantEverywhere(t, api.Expr{Op: api.EIndex, Name: "a", L: l}, api.ErrSyntax)
	}
}
