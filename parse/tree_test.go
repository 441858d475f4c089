package parse

import (
	"fmt"
	"strings"
	"testing"

	"interleave/api"
)

func num(n int64) api.Expr { return api.Expr{Op: api.ENum, N: n} }

func name(s string) api.Expr { return api.Expr{Op: api.EName, Name: s} }

func element(s string, index api.Expr) api.Expr {
	return api.Expr{Op: api.EIndex, Name: s, L: []api.Expr{index}}
}

func op(o int, l ...api.Expr) api.Expr { return api.Expr{Op: o, L: l} }

// showExpr returns a text that tells any two expressions apart.
func showExpr(e api.Expr) string {
	var b strings.Builder
	fmt.Fprintf(&b, "(%d %d %q", e.Op, e.N, e.Name)
	for _, x := range e.L {
		b.WriteString(showExpr(x))
	}
	return b.String() + ")"
}

func showStmts(l []api.Stmt) string {
	var b strings.Builder
	b.WriteString("{")
	for _, s := range l {
		fmt.Fprintf(&b, "<%d line %d %q %q [", s.Op, s.Line, s.Name, s.Arg)
		for _, e := range s.Index {
			b.WriteString(showExpr(e))
		}
		b.WriteString("]" + showExpr(s.Expr) + showStmts(s.Body) + showStmts(s.Else) + ">")
	}
	return b.String() + "}"
}

// show returns a text that tells any two programs apart.
func show(p api.Program) string {
	var b strings.Builder
	for _, d := range p.Decls {
		fmt.Fprintf(&b, "%+v\n", d)
	}
	for _, t := range p.Threads {
		fmt.Fprintf(&b, "thread %q line %d %q %s\n", t.Name, t.Line, t.Locals, showStmts(t.Body))
	}
	return b.String()
}

func wantProgram(t *testing.T, s string, want api.Program) {
	t.Helper()
	got, e, line := Parse(s)
	if e != api.OK || line != 0 {
		t.Errorf("Parse(%.300q): error %d, line %d", s, e, line)
	} else if show(got) != show(want) {
		t.Errorf("Parse(%.300q) =\n%swant\n%s", s, show(got), show(want))
	}
	if !Shaped(got) {
		t.Errorf("Parse(%.300q) is not shaped", s)
	}
}

func wantExpr(t *testing.T, s string, want api.Expr) {
	t.Helper()
	got, e, line := Expr(s)
	if e != api.OK || line != 0 {
		t.Errorf("Expr(%.300q): error %d, line %d", s, e, line)
	} else if showExpr(got) != showExpr(want) {
		t.Errorf("Expr(%.300q) = %s, want %s", s, showExpr(got), showExpr(want))
	}
	if !ShapedExpr(got) {
		t.Errorf("Expr(%.300q) is not shaped", s)
	}
}

func wantError(t *testing.T, s string, e api.Errno, line int) {
	t.Helper()
	got, gotE, gotLine := Parse(s)
	if gotE != e || gotLine != line || len(got.Decls) != 0 || len(got.Threads) != 0 {
		t.Errorf("Parse(%.300q): error %d, line %d, %s; want error %d, line %d", s, gotE, gotLine, show(got), e, line)
	}
}

func wantExprError(t *testing.T, s string, e api.Errno, line int) {
	t.Helper()
	got, gotE, gotLine := Expr(s)
	if gotE != e || gotLine != line || showExpr(got) != showExpr(api.Expr{}) {
		t.Errorf("Expr(%.300q): error %d, line %d, %s; want error %d, line %d", s, gotE, gotLine, showExpr(got), e, line)
	}
}
