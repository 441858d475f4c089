package format

import (
	"math/rand/v2"
	"strconv"
	"strings"
	"testing"

	"interleave/api"
	"interleave/parse"
)

// P3.1 to P3.4 on random programs and on all expressions of a few operators, against a second definition of the texts.

func specLevel(o int) int {
	switch o {
	case api.EOr:
		return 1
	case api.EAnd:
		return 2
	case api.EEq, api.ENe, api.ELt, api.ELe, api.EGt, api.EGe:
		return 3
	case api.EAdd, api.ESub:
		return 4
	case api.EMul, api.EDiv, api.EMod:
		return 5
	case api.ENeg, api.ENot:
		return 6
	}
	return 7
}

var specSigns = strings.Fields("? ? ? ? - ! + - * / % == != < <= > >= && ||")

func specExpr(e api.Expr, required int) string {
	level := specLevel(e.Op)
	text := ""
	switch {
	case e.Op == api.ENum:
		text = strconv.FormatInt(e.N, 10)
	case e.Op == api.EName:
		text = e.Name
	case e.Op == api.EIndex:
		text = e.Name + "[" + specExpr(e.L[0], 1) + "]"
	case level == 6:
		text = specSigns[e.Op] + specExpr(e.L[0], 6)
	case level == 3:
		text = specExpr(e.L[0], 4) + " " + specSigns[e.Op] + " " + specExpr(e.L[1], 4)
	default:
		text = specExpr(e.L[0], level) + " " + specSigns[e.Op] + " " + specExpr(e.L[1], level+1)
	}
	return inParentheses(text, level, required)
}

func specStmts(l []api.Stmt, depth int) string {
	text := ""
	for _, s := range l {
		text += specStmt(s, depth)
	}
	return text
}

func specStmt(s api.Stmt, depth int) string {
	blanks := strings.Repeat("  ", depth)
	return blanks + specHead(s, func(l []api.Stmt) string { return "{\n" + specStmts(l, depth+1) + blanks + "}" }) + "\n"
}

// specHead returns the text of a statement; block returns that of a block.
func specHead(s api.Stmt, block func([]api.Stmt) string) string {
	expr := ""
	if s.Expr.Op != 0 {
		expr = specExpr(s.Expr, 1)
	}
	switch s.Op {
	case api.SAssign:
		if len(s.Index) == 1 {
			return s.Name + "[" + specExpr(s.Index[0], 1) + "] = " + expr + ";"
		}
		return s.Name + " = " + expr + ";"
	case api.SIf:
		if len(s.Else) > 0 {
			return "if " + expr + " " + block(s.Body) + " else " + block(s.Else)
		}
		return "if " + expr + " " + block(s.Body)
	case api.SWhile:
		return "while " + expr + " " + block(s.Body)
	case api.SLock:
		return "lock " + s.Name + " " + block(s.Body)
	case api.SRead:
		return "read " + s.Name + " " + block(s.Body)
	case api.SWrite:
		return "write " + s.Name + " " + block(s.Body)
	case api.STransaction:
		return "transaction " + block(s.Body)
	case api.SAtomic:
		return "atomic " + block(s.Body)
	case api.SSet:
		return "set " + s.Name + " " + expr + ";"
	case api.SGet:
		return "get " + s.Name + " " + s.Arg + ";"
	}
	words := map[int]string{api.SWait: "wait", api.SNotify: "notify", api.SNotifyAll: "notifyall", api.SSpawn: "spawn", api.SJoin: "join"}
	return words[s.Op] + " " + s.Name + ";"
}

func specProgram(p api.Program) string {
	text := ""
	for _, d := range p.Decls {
		text += specDecl(d) + ";\n"
	}
	for _, t := range p.Threads {
		text += "thread " + t.Name + "(" + strings.Join(t.Locals, ", ") + ") {\n" + specStmts(t.Body, 1) + "}\n"
	}
	return text
}

func specDecl(d api.Decl) string {
	init := ""
	if d.Init != 0 {
		init = " = " + strconv.FormatInt(d.Init, 10)
	}
	switch d.Kind {
	case api.DVar:
		if d.Size > 0 {
			return "var " + d.Name + "[" + strconv.Itoa(d.Size) + "]" + init
		}
		return "var " + d.Name + init
	case api.DVolatile:
		return "volatile " + d.Name + init
	case api.DMutex:
		return "mutex " + d.Name
	case api.DRWLock:
		return "rwlock " + d.Name
	case api.DCond:
		return "cond " + d.Name + " " + d.On
	}
	return "future " + d.Name
}

// A maker makes up shaped values.
type maker struct{ *rand.Rand }

func newMaker(seed uint64) maker { return maker{rand.New(rand.NewPCG(seed, 3))} }

func (m maker) name() string {
	names := []string{"a", "b", "x", "m2", "If", "z_", "longestname1"}
	return names[m.IntN(len(names))]
}

func (m maker) number() int64 {
	numbers := []int64{0, 1, 2, 10, 1 << 40, 1<<63 - 1}
	return numbers[m.IntN(len(numbers))]
}

func (m maker) expr(depth int) api.Expr {
	o := api.ENum + m.IntN(api.EOr)
	if depth == 0 {
		o = api.ENum + m.IntN(2)
	}
	switch o {
	case api.ENum:
		return num(m.number())
	case api.EName:
		return name(m.name())
	case api.EIndex:
		return element(m.name(), m.expr(depth-1))
	case api.ENeg, api.ENot:
		return op(o, m.expr(depth-1))
	}
	return op(o, m.expr(depth-1), m.expr(depth-1))
}

func (m maker) stmts(depth int) []api.Stmt {
	var l []api.Stmt
	for depth > 0 && m.IntN(4) > 0 {
		l = append(l, m.stmt(depth))
	}
	return l
}

func (m maker) stmt(depth int) api.Stmt {
	s := api.Stmt{Op: api.SAssign + m.IntN(api.SGet), Line: m.Int()}
	switch s.Op {
	case api.SAssign, api.SIf, api.SWhile, api.SSet:
		s.Expr = m.expr(m.IntN(4))
	}
	switch s.Op {
	case api.SIf, api.SWhile, api.STransaction, api.SAtomic:
	default:
		s.Name = m.name()
	}
	if s.Op >= api.SIf && s.Op <= api.SAtomic {
		s.Body = m.stmts(depth - 1)
	}
	if s.Op == api.SIf {
		s.Else = m.stmts(depth - 1)
	}
	if s.Op == api.SGet {
		s.Arg = m.name()
	}
	if s.Op == api.SAssign && m.IntN(2) == 0 {
		s.Index = []api.Expr{m.expr(m.IntN(3))}
	}
	return s
}

func (m maker) decl() api.Decl {
	d := api.Decl{Kind: api.DVar + m.IntN(api.DFuture), Line: m.Int(), Name: m.name()}
	if d.Kind == api.DVar && m.IntN(2) == 0 {
		d.Size = int(m.number())
	}
	if d.Kind <= api.DVolatile {
		d.Init = m.number() * int64(1-2*m.IntN(2))
	}
	if d.Kind == api.DCond {
		d.On = m.name()
	}
	return d
}

func (m maker) program() api.Program {
	var p api.Program
	for range m.IntN(6) {
		p.Decls = append(p.Decls, m.decl())
	}
	for range 1 + m.IntN(3) {
		t := api.Thread{Name: m.name(), Line: m.Int(), Body: m.stmts(4)}
		for range m.IntN(4) {
			t.Locals = append(t.Locals, m.name())
		}
		p.Threads = append(p.Threads, t)
	}
	return p
}

func TestRandomPrograms(t *testing.T) {
	parsed := 0
	for seed := uint64(0); seed < 3000 && !t.Failed(); seed++ {
		p := newMaker(seed).program()
		if !parse.Shaped(p) {
			t.Fatalf("not shaped: %s", show(p))
		}
		want := specProgram(p)
		wantProgram(t, p, want)
		if len(want) <= api.MaxSource {
			parsed++
		}
	}
	if parsed < 1000 {
		t.Errorf("only %d programs are parsed", parsed)
	}
}

func TestRandomStatements(t *testing.T) {
	for seed := uint64(0); seed < 2000 && !t.Failed(); seed++ {
		m := newMaker(seed)
		s, depth := m.stmt(4), m.IntN(8)-2
		if got := Stmt(s, depth); got != specStmt(s, max(depth, 0)) {
			t.Errorf("Stmt(%s, %d) = %q", showStmts([]api.Stmt{s}), depth, got)
		}
	}
}

func TestRandomExpressions(t *testing.T) {
	for seed := uint64(0); seed < 5000 && !t.Failed(); seed++ {
		m := newMaker(seed)
		e := m.expr(m.IntN(6))
		wantExpr(t, e, specExpr(e, 1))
	}
}

// around returns all expressions of one more operator than e that have e as an operand.
func around(e api.Expr) []api.Expr {
	l := []api.Expr{element("x", e), op(api.ENeg, e), op(api.ENot, e)}
	for o := api.EAdd; o <= api.EOr; o++ {
		l = append(l, op(o, e, name("y")), op(o, num(2), e))
	}
	return l
}

func TestAllShortExpressions(t *testing.T) {
	for _, inner := range around(name("a")) {
		for _, e := range around(inner) {
			wantExpr(t, e, specExpr(e, 1))
			for _, outer := range around(e) {
				wantExpr(t, outer, specExpr(outer, 1))
			}
		}
	}
}

// Parentheses stand exactly where the text without them would denote something else.
func TestParenthesesAreNeeded(t *testing.T) {
	for _, inner := range around(name("a")) {
		for _, e := range around(inner) {
			with := Expr(e)
			without := strings.NewReplacer("(", "", ")", "").Replace(with)
			back, err, _ := parse.Expr(without)
			if same := err == api.OK && showExpr(back) == showExpr(e); same != (with == without) {
				t.Errorf("Expr(%s) = %q", showExpr(e), with)
			}
		}
	}
}

func FuzzFormat(f *testing.F) {
	for _, s := range []string{canonical, "thread t(){}", "var x[1]=-0;thread t(a,b){x[(0)]=(1<2)<3;}", "thread t(){if x{}else{join u;}}", "a-(b-c)"} {
		f.Add(s)
	}
	f.Fuzz(func(t *testing.T, s string) {
		if p, err, _ := parse.Parse(s); err == api.OK {
			wantProgram(t, p, specProgram(p))
		}
		if e, err, _ := parse.Expr(s); err == api.OK {
			wantExpr(t, e, specExpr(e, 1))
		}
	})
}
