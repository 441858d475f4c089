package format

import (
	"math"
	"strings"
	"sync"
	"testing"
	"unsafe"

	"interleave/api"
	"interleave/parse"
)

func threadWith(body ...api.Stmt) api.Program {
	return api.Program{Threads: []api.Thread{{Name: "t", Body: body}}}
}

// writeAll calls each function with e at every place for an expression.
func writeAll(e api.Expr) {
	Expr(e)
	for o := -1; o <= api.SGet+1; o++ {
		for _, index := range [][]api.Expr{nil, {e}, {e, e}} {
			s := api.Stmt{Op: o, Name: "x", Index: index, Expr: e}
			Stmt(s, 1)
			Program(threadWith(s))
		}
	}
}

// P1: values that are not shaped

var wrongNumbers = []int{math.MinInt, math.MinInt32, -2, -1, 0, 1 << 32, 1<<32 + 1, math.MaxInt}

func TestExpressionsThatAreNotShaped(t *testing.T) {
	operators := wrongNumbers
	for o := range api.EOr + 4 {
		operators = append(operators, o)
	}
	for _, o := range operators {
		for count := range 4 {
			for _, s := range []string{"", "if", "\xff\n", strings.Repeat("n", 1000)} {
				for _, n := range []int64{0, -1, math.MinInt64} {
					e := api.Expr{Op: o, N: n, Name: s}
					for range count {
						e.L = append(e.L, api.Expr{Op: o, N: n})
					}
					writeAll(e)
					Expr(op(api.ENeg, e))
					Expr(op(api.EEq, e, e))
					Expr(element("x", e))
				}
			}
		}
	}
}

func TestStatementsThatAreNotShaped(t *testing.T) {
	kinds := wrongNumbers
	for o := range api.SGet + 4 {
		kinds = append(kinds, o)
	}
	bodies := [][]api.Stmt{nil, {{}}, {{Op: -1}, {Op: api.SIf}}, {{Op: api.SLock, Name: "m"}}}
	for _, o := range kinds {
		for _, s := range []string{"", "x", "\x00"} {
			for _, e := range []api.Expr{{}, {Op: -1}, op(api.EAdd), num(-1), {N: 1, Name: "x", L: []api.Expr{{}}}} {
				for _, index := range [][]api.Expr{nil, {}, {{}}, {e, e}} {
					for b := range len(bodies) * len(bodies) {
						x := api.Stmt{Op: o, Name: s, Arg: s, Index: index, Expr: e, Body: bodies[b/len(bodies)], Else: bodies[b%len(bodies)]}
						for _, depth := range []int{-1, 0, 3} {
							Stmt(x, depth)
						}
						Program(threadWith(x, x))
					}
				}
			}
		}
	}
}

func TestProgramsThatAreNotShaped(t *testing.T) {
	Program(api.Program{})
	Program(api.Program{Threads: []api.Thread{{}}})
	Program(api.Program{Threads: []api.Thread{{Locals: []string{"", "if", "\xff"}}}})
	kinds := wrongNumbers
	for kind := range api.DFuture + 4 {
		kinds = append(kinds, kind)
	}
	for _, kind := range kinds {
		for _, size := range wrongNumbers {
			for _, init := range []int64{0, 1, math.MinInt64, math.MaxInt64} {
				for _, s := range []string{"", "x", "\n"} {
					Program(api.Program{Decls: []api.Decl{{Kind: kind, Name: s, Size: size, Init: init, On: s}}})
				}
			}
		}
	}
}

// P1: values of any depth

// deepExprs returns an expression of each form with depth operators within one another, and the texts.
func deepExprs(depth int) ([]api.Expr, []string) {
	l := []api.Expr{name("a"), name("a"), name("a"), name("a"), name("a"), name("a")}
	for range depth {
		l[0] = op(api.ENeg, l[0])
		l[1] = element("x", l[1])
		l[2] = op(api.ESub, l[2], name("b"))
		l[3] = op(api.ESub, name("b"), l[3])
		l[4] = op(api.EEq, l[4], name("b"))
		l[5] = op(api.ENot, op(api.EAdd, l[5], num(1)))
	}
	times := func(s string) string { return strings.Repeat(s, depth) }
	return l, []string{
		times("-") + "a",
		times("x[") + "a" + times("]"),
		"a" + times(" - b"),
		times("b - (")[:5*depth-1] + "a" + times(")")[1:],
		times("(")[1:] + "a" + times(" == b)")[:6*depth-1],
		times("!(") + "a" + times(" + 1)"),
	}
}

func TestDeepExpressions(t *testing.T) {
	for _, depth := range []int{1, 2, 100, 1 << 16} {
		l, texts := deepExprs(depth)
		for i, e := range l {
			if got := Expr(e); got != texts[i] {
				t.Errorf("form %d at depth %d has %d bytes, want %d: %.60q", i, depth, len(got), len(texts[i]), got)
			}
			if got := Stmt(api.Stmt{Op: api.SSet, Name: "f", Expr: e}, 1); got != "  set f "+texts[i]+";\n" {
				t.Errorf("form %d at depth %d is wrong in a statement: %.60q", i, depth, got)
			}
		}
	}
	// Far beyond what is promised a call still ends without a panic.
	e := name("a")
	for range 1 << 18 {
		e = op(api.EAdd, num(1), e)
	}
	Expr(e)
}

func deepStmt(depth int) api.Stmt {
	s := api.Stmt{Op: api.SWait, Name: "c"}
	for i := range depth {
		if i%2 == 0 {
			s = api.Stmt{Op: api.SAtomic, Body: []api.Stmt{s}}
		} else {
			s = api.Stmt{Op: api.SIf, Expr: a, Else: []api.Stmt{s}}
		}
	}
	return s
}

func TestDeepStatements(t *testing.T) {
	for _, depth := range []int{1, 2, 5, 1001} {
		s := deepStmt(depth)
		var head, tail strings.Builder
		for i := range depth {
			blanks := strings.Repeat("  ", i+1)
			if (depth-i)%2 == 1 {
				head.WriteString(blanks + "atomic {\n")
			} else {
				head.WriteString(blanks + "if a {\n" + blanks + "} else {\n")
			}
			tail.WriteString(strings.Repeat("  ", depth-i) + "}\n")
		}
		want := head.String() + strings.Repeat("  ", depth+1) + "wait c;\n" + tail.String()
		if got := Stmt(s, 1); got != want {
			t.Errorf("depth %d: %d bytes, want %d", depth, len(got), len(want))
		}
		if got := Program(threadWith(s)); got != "thread t() {\n"+want+"}\n" {
			t.Errorf("depth %d: another text in a program", depth)
		}
	}
}

// No memory holds the texts that these calls ask for.

func TestTextsBeyondTheLimit(t *testing.T) {
	for _, s := range []api.Stmt{{}, {Op: api.SWait, Name: "c"}, {Op: api.SIf, Expr: a, Body: []api.Stmt{{Op: api.SAtomic}}}} {
		for _, depth := range []int{math.MaxInt, math.MaxInt - 1, math.MaxInt / 2, 1 << 62, 1 << 40, 1 << 32, 1 << 31, 1 << 30} {
			if got := Stmt(s, depth); got != "" {
				t.Errorf("depth %d: %d bytes", depth, len(got))
			}
		}
	}
	for _, depth := range []int{1 << 16, 1 << 18} {
		if got := Program(threadWith(deepStmt(depth))); got != "" {
			t.Errorf("%d statements within one another: %d bytes", depth, len(got))
		}
	}
	e, s := name("a"), api.Stmt{Op: api.SAtomic}
	for range 200 {
		e = op(api.EAdd, e, e)
		s = api.Stmt{Op: api.SIf, Expr: e, Body: []api.Stmt{s, s}, Else: []api.Stmt{s}}
	}
	if Expr(e) != "" || Stmt(s, 0) != "" || Program(threadWith(s)) != "" {
		t.Error("a text for a value of 2^200 nodes")
	}
}

func TestSizes(t *testing.T) {
	for seed := range uint64(300) {
		p := newMaker(seed).program()
		s := p.Threads[0].Body
		if got := sizeOf(node{program: &p}).length(0); got != len(Program(p)) {
			t.Errorf("size %d of a program of %d bytes", got, len(Program(p)))
		}
		for i := range s {
			if got := sizeOf(node{stmt: &s[i]}).length(5); got != len(Stmt(s[i], 5)) {
				t.Errorf("size %d of a statement of %d bytes", got, len(Stmt(s[i], 5)))
			}
		}
	}
	// The greatest text, and one more byte.
	long := api.Stmt{Op: api.SAssign, Name: "x", Expr: num(1)}
	n := (limit - len("x = 1;\n")) / 2
	if got := sizeOf(node{stmt: &long}); got.length(n) != limit || got.length(n+1) <= limit || got.length(math.MaxInt) <= limit {
		t.Errorf("sizes %d, %d, %d", got.length(n), got.length(n+1), got.length(math.MaxInt))
	}
	greatest := size{limit + 1, limit + 1}
	if greatest.length(0) <= limit || greatest.length(limit) <= limit || greatest.length(math.MaxInt) <= limit {
		t.Error("the greatest size is not too large")
	}
}

// One slice at several places, whole and in part, is like several slices.
func TestValuesThatShareParts(t *testing.T) {
	l := []api.Expr{num(1), op(api.EAdd, a, b)}
	e := op(api.EMul, op(api.ENeg, l[:1]...), op(api.EMul, op(api.EOr, l...), op(api.ENot, l[1:]...)))
	e = op(api.ESub, e, op(api.EAdd, l[1], op(api.EMul, l...)))
	wantExpr(t, e, "-1 * ((1 || a + b) * !(a + b)) - (a + b + 1 * (a + b))")
	body := []api.Stmt{{Op: api.SWait, Name: "c"}, {Op: api.SAtomic}}
	s := api.Stmt{Op: api.SIf, Expr: a, Body: body, Else: body[1:]}
	s = api.Stmt{Op: api.SAtomic, Body: []api.Stmt{s, {Op: api.SLock, Name: "m", Body: body[:1]}}}
	want := "atomic {\n  if a {\n    wait c;\n    atomic {\n    }\n  } else {\n    atomic {\n    }\n  }\n  lock m {\n    wait c;\n  }\n}\n"
	if got := Stmt(s, 0); got != want {
		t.Errorf("Stmt = %q, want %q", got, want)
	}
	// Up to 2^16 places.
	e, want = name("a"), "a"
	for range 16 {
		e, want = op(api.EAdd, e, op(api.ENeg, e)), specExpr(op(api.EAdd, name(want), op(api.ENeg, name("("+want+")"))), 1)
	}
	if got := Expr(e); got != strings.ReplaceAll(want, "(a)", "a") {
		t.Errorf("a value of 2^16 leaves has another text: %d bytes, want %d", len(got), len(want))
	}
}

// These values have no text; the calls must end nevertheless.
func TestValuesThatContainThemselves(t *testing.T) {
	one, two := make([]api.Expr, 1), make([]api.Expr, 2)
	one[0] = op(api.ENeg, one...)
	two[0], two[1] = op(api.EAdd, num(1), op(api.ENot, one...)), op(api.EMul, two...)
	three := []api.Expr{num(1), num(2)}
	three[0] = op(api.EAdd, op(api.EAdd, three...), num(1))
	for _, e := range []api.Expr{one[0], two[0], two[1], three[0], op(api.EOr, num(1), three[0]), element("x", two[1])} {
		writeAll(e)
	}
	body := make([]api.Stmt, 2)
	body[0] = api.Stmt{Op: api.SAtomic}
	body[1] = api.Stmt{Op: api.SIf, Expr: num(1), Body: []api.Stmt{{Op: api.SAtomic}}, Else: body}
	Stmt(body[1], 0)
	Stmt(api.Stmt{Op: api.SLock, Name: "m", Body: body}, 2)
	Program(threadWith(body...))
}

// P2

// spare returns l with spare capacity that holds x.
func spare[T any](l []T, x T) []T {
	all := make([]T, len(l)+3)
	copy(all, l)
	for i := len(l); i < len(all); i++ {
		all[i] = x
	}
	return all[:len(l)]
}

func TestArgumentsStay(t *testing.T) {
	e := op(api.EAdd, num(1), element("x", num(2)))
	e.L = spare(e.L, num(5))
	inner := []api.Stmt{{Op: api.SAtomic}}
	s := api.Stmt{Op: api.SIf, Line: 7, Expr: e, Body: spare(inner, api.Stmt{Op: api.SWait}), Else: spare(inner, api.Stmt{Op: api.SJoin})}
	assign := api.Stmt{Op: api.SAssign, Name: "x", Index: spare([]api.Expr{num(1)}, num(6)), Expr: e}
	p := api.Program{
		Decls:   spare([]api.Decl{{Kind: api.DVar, Line: 8, Name: "x", Init: 3}}, api.Decl{Kind: api.DMutex, Name: "m"}),
		Threads: spare([]api.Thread{{Name: "t", Line: 9, Locals: spare([]string{"a"}, "b"), Body: spare([]api.Stmt{s, assign}, api.Stmt{Op: api.SGet})}}, api.Thread{Name: "u"}),
	}
	whole := func() string {
		x := p.Threads[0]
		all := api.Program{Decls: p.Decls[:4], Threads: p.Threads[:4]}
		return show(all) + showExpr(op(1, e.L[:5]...)) + showExpr(op(2, assign.Index[:4]...)) + showStmts(s.Body[:4]) + showStmts(s.Else[:4]) + showStmts(x.Body[:5]) + strings.Join(x.Locals[:4], " ")
	}
	before := whole()
	texts := Program(p) + Stmt(s, 1) + Expr(e)
	if want := specProgram(p) + specStmt(s, 1) + specExpr(e, 1); texts != want {
		t.Errorf("texts %q, want %q", texts, want)
	}
	if whole() != before {
		t.Error("an argument changed")
	}
}

func TestTextsAreNew(t *testing.T) {
	s := string([]byte("abc"))
	p := api.Program{Threads: []api.Thread{{Name: s}}}
	for _, got := range []string{Expr(name(s)), Expr(element(s, num(1))), Stmt(api.Stmt{Op: api.SAssign, Name: s, Expr: num(1)}, 0), Program(p)} {
		begin, at := uintptr(unsafe.Pointer(unsafe.StringData(got))), uintptr(unsafe.Pointer(unsafe.StringData(s)))
		if at >= begin && at < begin+uintptr(len(got)) || begin >= at && begin < at+uintptr(len(s)) {
			t.Errorf("the text %q shares memory with the argument", got)
		}
	}
}

// P3

func TestCallsAreIndependent(t *testing.T) {
	p, _, _ := parse.Parse(canonical)
	s := p.Threads[0].Body[2]
	text, e := Stmt(s, 1), p.Threads[0].Body[0].Expr
	var wait sync.WaitGroup
	for range 8 {
		wait.Go(func() {
			for range 50 {
				if Program(p) != canonical || Stmt(s, 1) != text || Expr(e) != "arr[x + 1] * (2 - x)" {
					t.Error("another text")
				}
			}
		})
	}
	wait.Wait()
}

// P6

func TestNilAndEmptySlicesAreEquivalent(t *testing.T) {
	noExprs, noStmts := []api.Expr{}, []api.Stmt{}
	p := api.Program{Decls: []api.Decl{}, Threads: []api.Thread{{Name: "t", Locals: []string{}, Body: []api.Stmt{
		{Op: api.SAssign, Name: "x", Index: noExprs, Expr: api.Expr{Op: api.ENum, L: noExprs}, Body: noStmts, Else: noStmts},
		{Op: api.SJoin, Name: "x", Index: noExprs, Expr: api.Expr{L: noExprs}, Body: noStmts, Else: noStmts},
		{Op: api.SIf, Index: noExprs, Expr: api.Expr{Op: api.EName, Name: "x", L: noExprs}, Body: noStmts, Else: noStmts},
	}}}}
	wantProgram(t, p, "thread t() {\n  x = 0;\n  join x;\n  if x {\n  }\n}\n")
}
