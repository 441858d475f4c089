package parse

import (
	"cmp"
	"slices"
	"strings"
	"sync"
	"testing"
	"unsafe"

	"interleave/api"
)

// P1: texts of any depth

func TestDeepTexts(t *testing.T) {
	for _, s := range []string{"(", "-", "!", "a[", "(-", "a[(", "1-(", "a&&!", "a<(", "a||b&&c==d+e*(", "((", "[", ")", "a+", "a", "1", "\n(", ";"} {
		deep := strings.Repeat(s, api.MaxSource)[:api.MaxSource]
		Expr(deep)
		Parse(deep)
		Parse(("thread t(){x=" + deep)[:api.MaxSource])
		Parse(("thread t(){if " + deep)[:api.MaxSource])
	}
	for _, s := range []string{"{", "}", "if a{", "if a{}else{", "while a{", "lock m{", "read m{", "write m{", "atomic{", "transaction{", "x=1;", "x[", "get a b;", "if "} {
		deep := "thread t(){" + strings.Repeat(s, api.MaxSource)
		Parse(deep[:api.MaxSource])
	}
	for _, s := range []string{"thread t(){}", "var x;", "var", "thread", "thread t(", "mutex m;", "cond "} {
		Parse(strings.Repeat(s, api.MaxSource)[:api.MaxSource])
	}
}

func TestDeepExpressions(t *testing.T) {
	n := (api.MaxSource - 1) / 2
	e, err, line := Expr(strings.Repeat("(", n) + "a" + strings.Repeat(")", n))
	if err != api.OK || line != 0 || showExpr(e) != showExpr(name("a")) {
		t.Errorf("%d parentheses: error %d, line %d", n, err, line)
	}
	e, err, _ = Expr(strings.Repeat("-", api.MaxSource-1) + "a")
	depth := 0
	for ; e.Op == api.ENeg && len(e.L) == 1; e = e.L[0] {
		depth++
	}
	if err != api.OK || depth != api.MaxSource-1 || e.Op != api.EName {
		t.Errorf("%d signs: error %d, depth %d", api.MaxSource-1, err, depth)
	}
	n = (api.MaxSource - 1) / 3
	e, err, _ = Expr(strings.Repeat("a[", n) + "0" + strings.Repeat("]", n))
	depth = 0
	for ; e.Op == api.EIndex && len(e.L) == 1; e = e.L[0] {
		depth++
	}
	if err != api.OK || depth != n || e.Op != api.ENum {
		t.Errorf("%d indices: error %d, depth %d", n, err, depth)
	}
	wantExprError(t, strings.Repeat("(\n", api.MaxSource/2), api.ErrSyntax, api.MaxSource/2)
	wantExprError(t, strings.Repeat("(\n", 1000)+"a"+strings.Repeat(")", 1001), api.ErrSyntax, 1001)
}

func TestDeepStatements(t *testing.T) {
	n := (api.MaxSource - 12) / 8
	p, err, line := Parse("thread t(){" + strings.Repeat("atomic{", n) + strings.Repeat("}", n) + "}")
	depth := 0
	for body := p.Threads[0].Body; len(body) == 1; body = body[0].Body {
		depth++
	}
	if err != api.OK || line != 0 || depth != n {
		t.Errorf("%d blocks: error %d, line %d, depth %d", n, err, line, depth)
	}
	wantShaped(t, p, true)
	wantError(t, "thread t(){\n"+strings.Repeat("if a{}else{\n", 300), api.ErrSyntax, 301)
}

// P1: values of any depth and shape

// deepExpr returns an expression with e at depth levels.
func deepExpr(e api.Expr, depth int) api.Expr {
	for i := range depth {
		if i%2 == 0 {
			e = op(api.ENeg, e)
		} else {
			e = op(api.EAdd, num(1), e)
		}
	}
	return e
}

// deepStmt returns a statement with s at depth levels.
func deepStmt(s api.Stmt, depth int) api.Stmt {
	for i := range depth {
		if i%2 == 0 {
			s = api.Stmt{Op: api.SAtomic, Body: []api.Stmt{s}}
		} else {
			s = api.Stmt{Op: api.SIf, Expr: num(1), Else: []api.Stmt{s}}
		}
	}
	return s
}

func TestDeepValues(t *testing.T) {
	wait := api.Stmt{Op: api.SWait, Name: "c"}
	for _, depth := range []int{1 << 12, 1 << 16} {
		good, bad := deepExpr(num(1), depth), deepExpr(num(-1), depth)
		for _, p := range append(holders(good), threadWith(deepStmt(wait, depth))) {
			if !Shaped(p) {
				t.Errorf("depth %d: Shaped is false", depth)
			}
		}
		for _, p := range append(holders(bad), threadWith(deepStmt(api.Stmt{Op: api.SWait}, depth))) {
			if Shaped(p) {
				t.Errorf("depth %d: Shaped is true", depth)
			}
		}
		if !ShapedExpr(good) || ShapedExpr(bad) {
			t.Errorf("depth %d: ShapedExpr is wrong", depth)
		}
	}
	// Far beyond what is promised a call still ends without a panic.
	ShapedExpr(deepExpr(num(1), 1<<20))
	Shaped(threadWith(deepStmt(wait, 1<<20)))
}

// The trees of these values have far more nodes than can be visited one by one.
func TestValuesThatShareParts(t *testing.T) {
	e, bad := num(1), num(-1)
	s, badS := api.Stmt{Op: api.SAtomic}, api.Stmt{Op: api.SWait}
	for range 200 {
		e, bad = op(api.EAdd, e, e), op(api.EAdd, bad, num(1))
		bad = op(api.EMul, e, bad)
		s = api.Stmt{Op: api.SIf, Expr: e, Body: []api.Stmt{s, s}, Else: []api.Stmt{s}}
		badS = api.Stmt{Op: api.SWhile, Expr: num(1), Body: []api.Stmt{s, badS}}
	}
	if !ShapedExpr(e) || ShapedExpr(bad) {
		t.Errorf("ShapedExpr is %v, %v", ShapedExpr(e), ShapedExpr(bad))
	}
	if !Shaped(threadWith(s)) || Shaped(threadWith(badS)) {
		t.Errorf("Shaped is %v, %v", Shaped(threadWith(s)), Shaped(threadWith(badS)))
	}
	// One slice as the operands of several nodes, whole and in part.
	l := []api.Expr{num(1), name("x")}
	shared := op(api.EAdd, op(api.ENeg, l[:1]...), op(api.ESub, op(api.EAnd, l...), op(api.ENot, l[1:]...)))
	if !ShapedExpr(shared) {
		t.Error("ShapedExpr is false for operands in one slice")
	}
	l[1].N = 1
	if ShapedExpr(shared) {
		t.Error("ShapedExpr is true for a bad operand in a shared slice")
	}
}

// No text denotes these values; the calls must end nevertheless.
func TestValuesThatContainThemselves(t *testing.T) {
	one, two := make([]api.Expr, 1), make([]api.Expr, 2)
	one[0] = op(api.ENeg, one...)
	two[0], two[1] = op(api.EAdd, num(1), op(api.ENot, one...)), op(api.EMul, two...)
	three := []api.Expr{num(1), num(2)}
	three[1] = op(api.EAdd, op(api.EAdd, num(1), num(2)), op(api.EAdd, three...))
	for _, e := range []api.Expr{one[0], two[0], two[1], three[1], op(api.EOr, num(1), three[1])} {
		if ShapedExpr(e) {
			t.Error("ShapedExpr is true for a value that contains itself")
		}
		for _, p := range holders(e) {
			if Shaped(p) {
				t.Error("Shaped is true for a value that contains itself")
			}
		}
	}
	body := make([]api.Stmt, 2)
	body[0] = api.Stmt{Op: api.SAtomic}
	body[1] = api.Stmt{Op: api.SIf, Expr: num(1), Body: []api.Stmt{{Op: api.SAtomic}}, Else: body}
	if Shaped(threadWith(body...)) || Shaped(threadWith(api.Stmt{Op: api.SLock, Name: "m", Body: body})) {
		t.Error("Shaped is true for a statement that contains itself")
	}
}

// P2

const wholeSource = "var x; var a[3] = -2; mutex m; cond c m; future f; thread t(p, q, r) { p = x + 1 * 2; a[p + 1] = a[0]; if p { x = 1; wait c; } else { x = 2; } lock m { atomic { } } get q f; } thread u(p) { set f -(1 + x); }"

// region is a part of memory.
type region struct{ begin, end uintptr }

func regionOf[T any](l []T) region {
	if cap(l) == 0 {
		return region{}
	}
	begin := uintptr(unsafe.Pointer(unsafe.SliceData(l)))
	return region{begin, begin + uintptr(cap(l))*unsafe.Sizeof(l[:1][0])}
}

func exprRegions(l []api.Expr) []region {
	all := []region{regionOf(l)}
	for _, e := range l {
		all = append(all, exprRegions(e.L)...)
	}
	return all
}

func stmtRegions(l []api.Stmt) []region {
	all := []region{regionOf(l)}
	for _, s := range l {
		all = append(all, exprRegions(s.Index)...)
		all = append(all, exprRegions(s.Expr.L)...)
		all = append(all, stmtRegions(s.Body)...)
		all = append(all, stmtRegions(s.Else)...)
	}
	return all
}

func programRegions(p api.Program) []region {
	all := []region{regionOf(p.Decls), regionOf(p.Threads)}
	for _, x := range p.Threads {
		all = append(all, regionOf(x.Locals))
		all = append(all, stmtRegions(x.Body)...)
	}
	return all
}

func TestResultsShareNoMemory(t *testing.T) {
	first, _, _ := Parse(wholeSource)
	second, _, _ := Parse(wholeSource)
	e, _, _ := Expr("a[1 + -b] * a[1 + -b]")
	all := slices.Concat(programRegions(first), programRegions(second), exprRegions(e.L))
	all = slices.DeleteFunc(all, func(r region) bool { return r.begin == r.end })
	slices.SortFunc(all, func(a, b region) int { return cmp.Compare(a.begin, b.begin) })
	if len(all) < 30 {
		t.Errorf("only %d slices", len(all))
	}
	for i := 1; i < len(all); i++ {
		if all[i].begin < all[i-1].end {
			t.Error("two slices share memory")
		}
	}
}

func TestNamesAreNew(t *testing.T) {
	s := string([]byte(wholeSource))
	begin := uintptr(unsafe.Pointer(unsafe.StringData(s)))
	p, _, _ := Parse(s)
	for _, text := range []string{p.Decls[0].Name, p.Decls[3].On, p.Threads[0].Name, p.Threads[0].Locals[0], p.Threads[0].Body[0].Name, p.Threads[0].Body[4].Arg, p.Threads[0].Body[2].Expr.Name} {
		if at := uintptr(unsafe.Pointer(unsafe.StringData(text))); text == "" || at >= begin && at < begin+uintptr(len(s)) {
			t.Errorf("the name %q lies in the argument", text)
		}
	}
}

func TestResultsAreIndependent(t *testing.T) {
	first, _, _ := Parse(wholeSource)
	want := show(first)
	first.Decls[0] = api.Decl{}
	first.Threads[0].Locals[1] = "other"
	first.Threads[0].Body[0].Expr.L[0] = num(7)
	first.Threads[0].Body[2].Body[0].Name = "other"
	first.Threads[1].Body[0].Expr.L[0].L[1].Name = "other"
	second, _, _ := Parse(wholeSource)
	if show(second) != want {
		t.Error("a result changes the next one")
	}
}

// spare returns l with spare capacity that holds x.
func spare[T any](l []T, x T) []T {
	all := make([]T, len(l)+3)
	copy(all, l)
	for i := len(l); i < len(all); i++ {
		all[i] = x
	}
	return all[:len(l)]
}

func TestArgumentsStay(t *testing.T) {
	e := op(api.EAdd, num(1), element("x", num(2)))
	e.L = spare(e.L, num(-5))
	s := api.Stmt{Op: api.SIf, Expr: e, Body: spare([]api.Stmt{{Op: api.SAtomic}}, api.Stmt{Op: 99}), Else: spare([]api.Stmt{{Op: api.SAtomic}}, api.Stmt{Op: 98})}
	assign := api.Stmt{Op: api.SAssign, Name: "x", Index: spare([]api.Expr{num(1)}, num(-6)), Expr: e}
	p := api.Program{
		Decls:   spare([]api.Decl{{Kind: api.DVar, Name: "x", Init: 3}}, api.Decl{Kind: 97}),
		Threads: spare([]api.Thread{{Name: "t", Locals: spare([]string{"a"}, "0"), Body: spare([]api.Stmt{s, assign}, api.Stmt{Op: 96})}}, api.Thread{Name: "9"}),
	}
	whole := func() string {
		x := p.Threads[0]
		all := api.Program{Decls: p.Decls[:4], Threads: p.Threads[:4]}
		return show(all) + showExpr(op(1, e.L[:5]...)) + showExpr(op(2, assign.Index[:4]...)) + showStmts(s.Body[:4]) + showStmts(s.Else[:4]) + showStmts(x.Body[:5]) + strings.Join(x.Locals[:4], " ")
	}
	before := whole()
	if !Shaped(p) || !ShapedExpr(e) {
		t.Error("spare capacity counts")
	}
	if whole() != before {
		t.Error("an argument changed")
	}
}

// P3

func TestCallsAreIndependent(t *testing.T) {
	texts := []string{wholeSource, "thread t() { x = 1 }", "", "thread t() { if a { } }", "# bad"}
	var wants []string
	result := func(s string) string {
		p, e, line := Parse(s)
		x, xe, xline := Expr(s)
		return show(p) + strings.Repeat("e", int(e)) + strings.Repeat("l", line) + showExpr(x) + strings.Repeat("e", int(xe)) + strings.Repeat("l", xline)
	}
	for _, s := range texts {
		wants = append(wants, result(s))
	}
	p, _, _ := Parse(wholeSource)
	var wait sync.WaitGroup
	for range 8 {
		wait.Go(func() {
			for range 50 {
				for i, s := range texts {
					if result(s) != wants[i] {
						t.Errorf("another result for %q", s)
					}
				}
				if !Shaped(p) || !ShapedExpr(p.Threads[0].Body[0].Expr) {
					t.Error("not shaped")
				}
			}
		})
	}
	wait.Wait()
}

// P6

func TestNilAndEmptySlicesAreEquivalent(t *testing.T) {
	noExprs, noStmts := []api.Expr{}, []api.Stmt{}
	p := api.Program{Decls: []api.Decl{}, Threads: []api.Thread{{Name: "t", Locals: []string{}, Body: []api.Stmt{
		{Op: api.SAssign, Name: "x", Index: noExprs, Expr: api.Expr{Op: api.ENum, L: noExprs}, Body: noStmts, Else: noStmts},
		{Op: api.SJoin, Name: "x", Index: noExprs, Expr: api.Expr{L: noExprs}, Body: noStmts, Else: noStmts},
		{Op: api.SIf, Index: noExprs, Expr: api.Expr{Op: api.EName, Name: "x", L: noExprs}, Body: noStmts, Else: noStmts},
	}}}}
	wantShaped(t, p, true)
}

func FuzzParse(f *testing.F) {
	for _, s := range []string{"", wholeSource, cut, "thread t() {", "var x[0]; thread t() { }", "a < b < c", "1a"} {
		f.Add(s)
	}
	f.Fuzz(func(t *testing.T, s string) {
		p, e, line := Parse(s)
		if e == api.OK && (line != 0 || !Shaped(p)) || e != api.OK && (line == 0 && e != api.ErrTooLarge || show(p) != "") {
			t.Errorf("Parse(%q): error %d, line %d", s, e, line)
		}
		x, e, line := Expr(s)
		if e == api.OK && (line != 0 || !ShapedExpr(x)) || e != api.OK && (line == 0 && e != api.ErrTooLarge || showExpr(x) != showExpr(api.Expr{})) {
			t.Errorf("Expr(%q): error %d, line %d", s, e, line)
		}
	})
}
