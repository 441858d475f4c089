package format

import (
	"fmt"
	"strings"
	"testing"

	"interleave/api"
	"interleave/parse"
)

func num(n int64) api.Expr { return api.Expr{Op: api.ENum, N: n} }

func name(s string) api.Expr { return api.Expr{Op: api.EName, Name: s} }

func element(s string, index api.Expr) api.Expr {
	return api.Expr{Op: api.EIndex, Name: s, L: []api.Expr{index}}
}

func op(o int, l ...api.Expr) api.Expr { return api.Expr{Op: o, L: l} }

// showExpr returns a text that tells any two expressions apart.
func showExpr(e api.Expr) string {
	var b strings.Builder
	fmt.Fprintf(&b, "(%d %d %q", e.Op, e.N, e.Name)
	for _, x := range e.L {
		b.WriteString(showExpr(x))
	}
	return b.String() + ")"
}

func showStmts(l []api.Stmt) string {
	var b strings.Builder
	b.WriteString("{")
	for _, s := range l {
		fmt.Fprintf(&b, "<%d line %d %q %q [", s.Op, s.Line, s.Name, s.Arg)
		for _, e := range s.Index {
			b.WriteString(showExpr(e))
		}
		b.WriteString("]" + showExpr(s.Expr) + showStmts(s.Body) + showStmts(s.Else) + ">")
	}
	return b.String() + "}"
}

// show returns a text that tells any two programs apart.
func show(p api.Program) string {
	var b strings.Builder
	for _, d := range p.Decls {
		fmt.Fprintf(&b, "%+v\n", d)
	}
	for _, t := range p.Threads {
		fmt.Fprintf(&b, "thread %q line %d %q %s\n", t.Name, t.Line, t.Locals, showStmts(t.Body))
	}
	return b.String()
}

// setLines sets the lines that the elements of a program have in its canonical text, where each line begins one of them or ends a block.
func setLines(p api.Program) {
	line := 0
	for i := range p.Decls {
		line++
		p.Decls[i].Line = line
	}
	for i := range p.Threads {
		line++
		p.Threads[i].Line = line
		line = setStmtLines(p.Threads[i].Body, line) + 1
	}
}

// setStmtLines sets the lines of statements that stand behind a line, and returns their last line.
func setStmtLines(l []api.Stmt, line int) int {
	for i := range l {
		s := &l[i]
		line++
		s.Line = line
		if s.Op < api.SIf || s.Op > api.SAtomic {
			continue
		}
		line = setStmtLines(s.Body, line) + 1
		if len(s.Else) > 0 {
			line = setStmtLines(s.Else, line) + 1
		}
	}
	return line
}

// wantExpr compares the text of an expression, and the expression that the text denotes (P3.4).
func wantExpr(t *testing.T, e api.Expr, want string) {
	t.Helper()
	got := Expr(e)
	if got != want {
		t.Errorf("Expr(%s) = %.300q, want %.300q", showExpr(e), got, want)
	}
	back, err, _ := parse.Expr(got)
	if len(got) <= api.MaxSource && (err != api.OK || showExpr(back) != showExpr(e)) {
		t.Errorf("parse.Expr(%q): error %d, %s; want %s", got, err, showExpr(back), showExpr(e))
	}
}

// wantProgram compares the text of a program, and the program that the text denotes (P3.4). It sets the lines of p.
func wantProgram(t *testing.T, p api.Program, want string) {
	t.Helper()
	got := Program(p)
	if got != want {
		t.Errorf("Program(%s) =\n%s\nwant\n%s", show(p), got, want)
	}
	back, err, _ := parse.Parse(got)
	setLines(p)
	if len(got) <= api.MaxSource && (err != api.OK || show(back) != show(p)) {
		t.Errorf("parse.Parse(%q): error %d,\n%s\nwant\n%s", got, err, show(back), show(p))
	}
}

// wantStmt compares the text of a statement at depth 0, at another depth, and inside a program.
func wantStmt(t *testing.T, s api.Stmt, lines ...string) {
	t.Helper()
	for depth := range 4 {
		want := ""
		for _, line := range lines {
			want += strings.Repeat(" ", 2*depth) + line + "\n"
		}
		if got := Stmt(s, depth); got != want {
			t.Errorf("Stmt(%s, %d) = %q, want %q", showStmts([]api.Stmt{s}), depth, got, want)
		}
		if depth == 1 {
			p := api.Program{Threads: []api.Thread{{Name: "t", Body: []api.Stmt{s}}}}
			wantProgram(t, p, "thread t() {\n"+want+"}\n")
		}
	}
}
