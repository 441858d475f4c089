package check

import (
	"math"
	"slices"
	"strconv"
	"strings"
	"testing"

	"interleave/api"
)

// P4.2

func TestOrdinaryPrograms(t *testing.T) {
	want(t, "thread t() { }", api.OK)
	want(t, decls+"thread t(l) { }"+threads, api.OK)
	for _, kind := range declKinds {
		want(t, "mutex o; "+declare(kind, "x")+"thread t() { }", api.OK)
	}
	for _, d := range []string{"var x = 1; ", "var x = -9223372036854775807; ", "volatile x = 9223372036854775807; ", "var x[4] = 5; "} {
		want(t, d+"thread t() { }", api.OK)
	}
	want(t, "var x; mutex m; thread t(l) { spawn u; lock m { l = x; x = l + 1; } join u; } thread u(l) { lock m { l = x; x = l * 2; } }", api.OK)
	want(t, "var x; mutex m; cond c m; future f; thread t(l) { spawn u; lock m { while x == 0 { wait c; } } get l f; } thread u() { lock m { x = 1; notify c; } set f x + 1; }", api.OK)
	want(t, "var a[3]; rwlock r; volatile v; thread t(l) { spawn u; while !v { } read r { l = a[v] + a[l]; } } thread u() { write r { a[0] = 1; a[1 + v] = -2; } transaction { if v { } else { v = 1; } } }", api.OK)
}

// item 1

func unshapedPrograms(t *testing.T) []api.Program {
	changes := []func(*api.Program){
		func(p *api.Program) { p.Threads = nil },
		func(p *api.Program) { p.Decls[0].Kind = 0 },
		func(p *api.Program) { p.Decls[0].Kind = 7 },
		func(p *api.Program) { p.Decls[0].Name = "" },
		func(p *api.Program) { p.Decls[1].Name = "lock" },
		func(p *api.Program) { p.Decls[0].Size = -1 },
		func(p *api.Program) { p.Decls[0].On = "m" },
		func(p *api.Program) { p.Decls[0].Init = math.MinInt64 },
		func(p *api.Program) { p.Decls[1].Size = 1 },
		func(p *api.Program) { p.Decls[3].Init = 1 },
		func(p *api.Program) { p.Decls[7].On = "" },
		func(p *api.Program) { p.Threads[2].Name = "0" },
		func(p *api.Program) { p.Threads[1].Locals[0] = "" },
		func(p *api.Program) { p.Threads[2].Body = []api.Stmt{{}} },
		func(p *api.Program) { p.Threads[0].Body = []api.Stmt{{Op: 16, Name: "x"}} },
		func(p *api.Program) { p.Threads[0].Body = []api.Stmt{{Op: api.SLock, Name: "m", Arg: "x"}} },
		func(p *api.Program) { p.Threads[0].Body = []api.Stmt{{Op: api.SJoin, Name: "u", Expr: num(1)}} },
	}
	for _, e := range unshapedExprs() {
		changes = append(changes, func(p *api.Program) {
			p.Threads[0].Body = []api.Stmt{{Op: api.SIf, Expr: num(1), Else: []api.Stmt{{Op: api.SAssign, Name: "x", Expr: e}}}}
		})
	}
	var all []api.Program
	for _, change := range changes {
		p := exprProgram(t)
		change(&p)
		all = append(all, p)
	}
	return append(all, api.Program{})
}

func TestProgramsThatAreNotShaped(t *testing.T) {
	for _, p := range unshapedPrograms(t) {
		wantValue(t, p, api.ErrSyntax, 0)
	}
}

// item 2

// declKinds declare NAME in each way; those of an array and of a condition need nothing else than the mutex o.
var declKinds = []string{"var NAME; ", "var NAME[2]; ", "volatile NAME; ", "mutex NAME; ", "rwlock NAME; ", "cond NAME o; ", "future NAME; "}

func declare(kind, name string) string {
	return strings.Replace(kind, "NAME", name, 1)
}

func TestDuplicateDeclarations(t *testing.T) {
	for _, earlier := range declKinds {
		for _, later := range declKinds {
			want(t, "mutex o; "+declare(earlier, "x")+declare(later, "y")+"thread t() { }", api.OK)
			want(t, "mutex o; "+declare(earlier, "x")+"@"+declare(later, "x")+"thread t() { }", api.ErrDuplicate)
			want(t, "mutex o; "+declare(earlier, "x")+"var y; @"+declare(later, "x")+declare(later, "x")+"thread t() { }", api.ErrDuplicate)
		}
	}
	// The mutex of a condition is no name that the condition declares.
	want(t, "mutex m; cond c m; cond d m; @mutex c; thread t() { }", api.ErrDuplicate)
}

func TestSizesOfArrays(t *testing.T) {
	for size := 1; size <= api.MaxSize; size++ {
		want(t, "var x["+strconv.Itoa(size)+"]; thread t() { }", api.OK)
	}
	for _, size := range []int{api.MaxSize + 1, api.MaxSize + 2, api.MaxCells + 1, 1 << 32, 1<<63 - 4, math.MaxInt} {
		want(t, "var y[4]; var w; @var x["+strconv.Itoa(size)+"]; var x; thread t() { }", api.ErrTooLarge)
	}
}

// declareAll declares names of the given kinds in order, and marks the declaration with an index.
func declareAll(mark int, kinds ...string) string {
	var b strings.Builder
	for i, kind := range kinds {
		if i == mark {
			b.WriteString("@")
		}
		b.WriteString(declare(kind, "d"+strconv.Itoa(i)))
	}
	return b.String()
}

// wantLimit checks a list of declarations of which the last one passes a limit, and all others keep it.
func wantLimit(t *testing.T, kinds ...string) {
	t.Helper()
	last := len(kinds) - 1
	rest := "var end; mutex end1; thread t() { end2 = 1; }"
	want(t, declareAll(-1, kinds[:last]...)+"thread t() { }", api.OK)
	want(t, declareAll(last, kinds...)+"thread t() { }", api.ErrTooLarge)
	want(t, declareAll(last, kinds...)+rest, api.ErrTooLarge)
}

func TestNumberOfCells(t *testing.T) {
	scalar, volatile := "var NAME; ", "volatile NAME; "
	array := func(n int) string { return "var NAME[" + strconv.Itoa(n) + "]; " }
	for _, one := range []string{scalar, volatile, array(1)} {
		wantLimit(t, slices.Repeat([]string{one}, api.MaxCells+1)...)
		wantLimit(t, array(4), array(4), array(4), one)
		wantLimit(t, array(4), array(4), array(3), one, scalar)
		wantLimit(t, array(4), array(4), array(3), one, volatile)
	}
	wantLimit(t, array(4), array(4), array(3), array(2))
	wantLimit(t, array(4), array(4), array(1), array(4))
	wantLimit(t, array(2), array(3), array(4), scalar, volatile, array(2))
	wantLimit(t, slices.Repeat([]string{array(2)}, 7)...)
	// Nothing else is a cell.
	want(t, declareAll(-1, slices.Repeat([]string{scalar}, api.MaxCells)...)+"mutex m; mutex n; rwlock r; rwlock q; cond c m; cond d n; future f; future g; thread t(a, b, e, h) { }", api.OK)
}

func TestNumberOfLocks(t *testing.T) {
	for mix := range 1 << (api.MaxLocks + 1) {
		var kinds []string
		for i := range api.MaxLocks + 1 {
			kinds = append(kinds, []string{"mutex NAME; ", "rwlock NAME; "}[mix>>i&1])
		}
		wantLimit(t, kinds...)
		wantLimit(t, slices.Insert(kinds, mix%5, "var NAME[4]; ", "future NAME; ", "volatile NAME; ")...)
	}
}

func TestNumberOfConditionsAndFutures(t *testing.T) {
	wantLimit(t, "mutex NAME; ", "cond NAME d0; ", "cond NAME d0; ", "cond NAME d0; ")
	wantLimit(t, "mutex NAME; ", "cond NAME d0; ", "mutex NAME; ", "future NAME; ", "cond NAME d2; ", "var NAME; ", "cond NAME d0; ")
	wantLimit(t, "future NAME; ", "future NAME; ", "future NAME; ")
	wantLimit(t, "future NAME; ", "mutex NAME; ", "cond NAME d1; ", "future NAME; ", "cond NAME d1; ", "var NAME; ", "future NAME; ")
}

func TestMutexesOfConditions(t *testing.T) {
	want(t, "mutex m; mutex n; cond c n; cond d m; thread t() { }", api.OK)
	want(t, "mutex m; @cond c z; thread t() { }", api.ErrUndefined)
	want(t, "@cond c m; mutex m; thread t() { }", api.ErrUndefined)
	want(t, "mutex m; @cond c c; thread t() { }", api.ErrUndefined)
	want(t, "mutex m; @cond c t; thread t() { }", api.ErrUndefined)
	want(t, "mutex m; @cond c l; thread t(l) { }", api.ErrUndefined)
	for _, kind := range declKinds {
		marked := "mutex o; " + declare(kind, "x") + "@cond c x; thread t() { }"
		if strings.HasPrefix(kind, "mutex") {
			want(t, strings.Replace(marked, "@", "", 1), api.OK)
		} else {
			want(t, marked, api.ErrKind)
		}
	}
}

func TestFirstErrorOfDeclarations(t *testing.T) {
	// in one declaration
	want(t, "var x; @var x[5]; thread t() { }", api.ErrDuplicate)
	want(t, "future f; future g; @future f; thread t() { }", api.ErrDuplicate)
	want(t, "var x; @cond x z; thread t() { }", api.ErrDuplicate)
	want(t, "var x; @cond x x; thread t() { }", api.ErrDuplicate)
	want(t, "mutex m; cond c m; cond d m; @cond e z; thread t() { }", api.ErrTooLarge)
	want(t, "mutex m; cond c m; cond d m; @cond e c; thread t() { }", api.ErrTooLarge)
	// in two declarations
	want(t, "var x; @cond c x; var x; thread t() { }", api.ErrKind)
	want(t, "var x; @var x; cond c x; thread t() { }", api.ErrDuplicate)
	want(t, "@cond c z; var x[5]; thread t() { }", api.ErrUndefined)
	want(t, "@var x[5]; cond c z; thread t() { }", api.ErrTooLarge)
	want(t, "rwlock r; @cond c r; cond d z; thread t() { }", api.ErrKind)
	want(t, "rwlock r; @cond d z; cond c r; thread t() { }", api.ErrUndefined)
}

// items 3 to 5

func TestNumberOfThreads(t *testing.T) {
	for n := 1; n <= 2*api.MaxThreads; n++ {
		source, same := "", ""
		for i := range n {
			source += "thread t" + strconv.Itoa(i) + "() { } "
			same += "thread t() { } "
		}
		if n <= api.MaxThreads {
			want(t, source, api.OK)
		} else {
			want(t, "#"+source, api.ErrTooLarge)
			want(t, "#var x; "+source, api.ErrTooLarge)
			want(t, "#"+same, api.ErrTooLarge)
		}
	}
}

func TestDuplicateThreads(t *testing.T) {
	for _, kind := range declKinds {
		want(t, "mutex o; "+declare(kind, "t")+"@thread t() { } thread u() { }", api.ErrDuplicate)
		want(t, "mutex o; "+declare(kind, "u")+"thread t() { } @thread u() { }", api.ErrDuplicate)
		want(t, "mutex o; "+declare(kind, "u")+"thread t() { } @thread o() { }", api.ErrDuplicate)
		want(t, "mutex o; "+declare(kind, "u")+"thread t() { } @thread u() { } thread t() { }", api.ErrDuplicate)
	}
	want(t, "thread t() { } @thread t() { }", api.ErrDuplicate)
	want(t, "thread t() { } thread u() { } thread v() { } @thread u() { }", api.ErrDuplicate)
	want(t, "thread t() { } thread u() { } @thread u() { } thread t() { }", api.ErrDuplicate)
}

func TestNumberOfLocals(t *testing.T) {
	names := strings.Split("b, c, d, e, f, g, h", ", ")
	for n := range len(names) {
		list := strings.Join(names[:n], ", ")
		if n <= api.MaxLocals {
			want(t, "thread t("+list+") { } thread u("+list+") { }", api.OK)
			continue
		}
		want(t, "@thread t("+list+") { } thread u("+list+") { }", api.ErrTooLarge)
		want(t, "thread t() { } @thread u("+list+") { } thread v("+list+") { }", api.ErrTooLarge)
		want(t, "var b; thread t() { } @thread u("+list+", b, c) { }", api.ErrTooLarge)
	}
}

func TestDuplicateLocals(t *testing.T) {
	for _, kind := range declKinds {
		for _, list := range []string{"x", "x, b, c", "b, x", "b, c, d, x"} {
			want(t, "mutex o; "+declare(kind, "x")+"@thread t("+list+") { } thread u(x) { }", api.ErrDuplicate)
			want(t, "mutex o; "+declare(kind, "x")+"thread t(y) { } @thread u("+list+") { }", api.ErrDuplicate)
		}
	}
	want(t, "mutex x; var y; @thread t(b, x) { }", api.ErrDuplicate)
	for _, list := range []string{"b, b", "b, c, b", "b, c, d, d", "b, c, d, b", "b, b, b, b"} {
		want(t, "thread t() { } @thread u("+list+") { } thread v(b, b) { }", api.ErrDuplicate)
	}
	want(t, "@thread t(t) { }", api.ErrDuplicate)
	want(t, "thread t(b) { } @thread u(b, t) { }", api.ErrDuplicate)
	want(t, "@thread t(b, u) { } thread u(b) { }", api.ErrDuplicate)
	// The locals of several threads have nothing to do with one another.
	want(t, "thread t(b, c) { } thread u(c, b) { } thread v(b) { }", api.OK)
	// the first thread decides
	want(t, "@thread t(b, b) { } thread u(b, c, d, e, f) { }", api.ErrDuplicate)
	want(t, "@thread t(b, c, d, e, f) { } thread u(b, b) { }", api.ErrTooLarge)
}

// item 6

func TestNumberOfStatements(t *testing.T) {
	assignments := func(n int) string { return strings.Repeat("x = 1;", n) }
	forms := []func(n int) string{
		func(n int) string { return "thread t() {" + assignments(n) + "}" },
		func(n int) string { return "thread t() { } thread u() {" + assignments(n) + "}" },
		func(n int) string {
			return "thread t() {" + assignments(20) + "} thread u() { " + assignments(20) + "} thread w() { } thread y() { " + assignments(n-40) + "}"
		},
		func(n int) string {
			return "thread t() { lock m {" + assignments(10) + " } if x {" + assignments(10) + "} else {" + assignments(n-22) + "} }"
		},
		func(n int) string {
			return "thread t() { if x {" + assignments(10) + "} else {" + assignments(10) + "} " + assignments(n-21) + " }"
		},
		func(n int) string {
			return "thread t() { " + strings.Repeat("while x { atomic { } }", 10) + assignments(n-20) + " }"
		},
		func(n int) string {
			return "thread t() { " + assignments(n-6) + "read r { while x { if x { if x { if x { } else { x = 1; } } } } } }"
		},
	}
	for _, form := range forms {
		for _, n := range []int{api.MaxStmts - 1, api.MaxStmts} {
			want(t, "var x; mutex m; rwlock r; "+form(n), api.OK)
		}
		for _, n := range []int{api.MaxStmts + 1, api.MaxStmts + 2, 3 * api.MaxStmts} {
			want(t, "#var x; mutex m; rwlock r; "+form(n), api.ErrTooLarge)
		}
	}
	// The error goes ahead of those of the statements.
	want(t, "#thread t() { "+assignments(api.MaxStmts+1)+" }", api.ErrTooLarge)
	want(t, "thread t() { @"+assignments(api.MaxStmts)+" }", api.ErrUndefined)
}

// item 7

// nested returns a statement at a depth with one block around it and ifs around that one or inside it. It marks the first statement that is too deep.
func nested(inner string, depth int, block string, blockDepth int) string {
	body := inner
	for d := depth; d > 0; d-- {
		if d == blockDepth {
			body = strings.Replace(block, "BODY", body, 1)
		} else if d < depth {
			body = "if x { " + body + " x = 2; }"
		}
		if d == api.MaxNest+1 {
			body = "@" + body
		}
	}
	return body
}

func TestDepthOfStatements(t *testing.T) {
	blocks := []string{"if x { BODY }", "if x { } else { BODY }", "while x { BODY }", "lock m { BODY }", "read r { BODY }", "write r { BODY }", "transaction { BODY }", "atomic { BODY }"}
	for _, block := range blocks {
		for depth := 1; depth < 2*api.MaxNest; depth++ {
			for at := 1; at < depth; at++ {
				wantBody(t, nested("x = 1;", depth, block, at), errorIf(depth > api.MaxNest, api.ErrTooLarge))
				for _, wrong := range []string{"z = 1;", "a[z] = m;", "if z { y = 1; }", "set f z;"} {
					if depth > api.MaxNest {
						wantBody(t, nested(wrong, depth, block, at), api.ErrTooLarge)
					}
				}
				if depth <= api.MaxNest {
					wantBody(t, nested("@z = 1;", depth, block, at), api.ErrUndefined)
				}
			}
		}
	}
	// What is told goes ahead of the errors of the statement's own kind.
	wantBody(t, "lock m { if x { if x { if x { if x { if x { @lock m { } } } } } } }", api.ErrTooLarge)
	wantBody(t, "lock m { if x { if x { if x { if x { @lock m { lock n { } } } } } } }", api.ErrNesting)
}

func TestFirstStatementDecides(t *testing.T) {
	bad := []struct {
		text string
		err  api.Errno
	}{{"x = z;", api.ErrUndefined}, {"m = 1;", api.ErrKind}, {"notify c;", api.ErrNesting}, {"x = ------1;", api.ErrTooLarge}}
	for _, p := range bad {
		for _, q := range bad {
			if p == q {
				continue
			}
			wantBody(t, "@"+p.text+" "+q.text, p.err)
			wantBody(t, "x = 1; if x { @"+p.text+" } "+q.text, p.err)
			wantBody(t, "if x { @"+p.text+" } else { "+q.text+" } x = z;", p.err)
			wantBody(t, "if x { x = 1; } else { @"+p.text+" "+q.text+" }", p.err)
			wantBody(t, "if x { if x { x = 1; } else { @"+p.text+" } } else { "+q.text+" } ", p.err)
			want(t, decls+"thread t() { if x { @"+p.text+" } } thread u() { "+q.text+" }", p.err)
			want(t, decls+"thread t() { x = 1; } thread u() { @"+p.text+" } thread w() { "+q.text+" }", p.err)
		}
		// A statement goes ahead of those inside it.
		wantBody(t, "@if z { "+p.text+" }", api.ErrUndefined)
		wantBody(t, "@while m { "+p.text+" }", api.ErrKind)
		wantBody(t, "@lock r { "+p.text+" }", api.ErrKind)
		wantBody(t, "@read z { "+p.text+" }", api.ErrUndefined)
		wantBody(t, "transaction { @transaction { "+p.text+" } }", api.ErrNesting)
		wantBody(t, "read r { @"+p.text+" }", p.err)
	}
}

// faults are one error of each item of P4.2, in the document's order. Any of them can be added to one program.
var faults = []struct {
	add  func(*api.Program)
	err  api.Errno
	line int
}{
	{func(p *api.Program) { p.Threads[1].Body = append(p.Threads[1].Body, api.Stmt{Op: api.SJoin, Line: 1}) }, api.ErrSyntax, 0},
	{func(p *api.Program) { p.Decls = append(p.Decls, api.Decl{Kind: api.DMutex, Line: 22, Name: "x"}) }, api.ErrDuplicate, 22},
	{func(p *api.Program) { p.Decls = append(p.Decls, api.Decl{Kind: api.DFuture, Line: 23, Name: "h"}) }, api.ErrTooLarge, 23},
	{func(p *api.Program) { p.Threads = append(p.Threads, make([]api.Thread, api.MaxThreads)...); name5(p) }, api.ErrTooLarge, 0},
	{func(p *api.Program) { p.Threads[0].Name, p.Threads[0].Line = "m", 24 }, api.ErrDuplicate, 24},
	{func(p *api.Program) { p.Threads[1].Line = 25; p.Threads[1].Locals = strings.Fields("a1 a2 a3 a4 a5") }, api.ErrTooLarge, 25},
	{func(p *api.Program) { p.Threads[2].Line = 26; p.Threads[2].Locals = []string{"a"} }, api.ErrDuplicate, 26},
	{func(p *api.Program) {
		p.Threads[1].Body = append(p.Threads[1].Body, make([]api.Stmt, api.MaxStmts+1)...)
		fill(p.Threads[1].Body)
	}, api.ErrTooLarge, 0},
	{func(p *api.Program) {
		p.Threads[1].Body = append([]api.Stmt{{Op: api.SJoin, Line: 27, Name: "z"}}, p.Threads[1].Body...)
	}, api.ErrUndefined, 27},
	{func(p *api.Program) {
		p.Threads[2].Body = append(p.Threads[2].Body, api.Stmt{Op: api.SWait, Line: 28, Name: "c"})
	}, api.ErrNesting, 28},
}

// name5 gives a name to the threads that have none.
func name5(p *api.Program) {
	for i := range p.Threads {
		if p.Threads[i].Name == "" {
			p.Threads[i].Name = "t" + strconv.Itoa(i)
		}
	}
}

// fill turns empty statements into shaped ones.
func fill(l []api.Stmt) {
	for i := range l {
		if l[i].Op == 0 {
			l[i].Op = api.SAtomic
		}
	}
}

func TestOrderOfItems(t *testing.T) {
	for set := range 1 << len(faults) {
		p := exprProgram(t)
		first := -1
		for i, f := range faults {
			if set>>i&1 == 1 {
				f.add(&p)
				if first < 0 {
					first = i
				}
			}
		}
		if first < 0 {
			wantValue(t, p, api.OK, 0)
		} else {
			wantValue(t, p, faults[first].err, faults[first].line)
		}
	}
}

// Lines are those of the value, whatever they are.
func TestLines(t *testing.T) {
	for _, line := range []int{math.MinInt, -1, 0, 1, 7, math.MaxInt} {
		p := exprProgram(t)
		p.Decls = append(p.Decls, api.Decl{Kind: api.DVar, Line: line, Name: "m"})
		wantValue(t, p, api.ErrDuplicate, line)
		p = exprProgram(t)
		p.Threads[2].Name, p.Threads[2].Line = "t", line
		wantValue(t, p, api.ErrDuplicate, line)
		p = exprProgram(t)
		p.Threads[1].Locals, p.Threads[1].Line = []string{"w"}, line
		wantValue(t, p, api.ErrDuplicate, line)
		p = exprProgram(t)
		p.Threads[1].Body = []api.Stmt{{Op: api.SAtomic, Line: 5, Body: []api.Stmt{{Op: api.SAtomic, Line: line}}}}
		wantValue(t, p, api.ErrNesting, line)
	}
}
