package format

import (
	"math"
	"strings"
	"testing"

	"interleave/api"
	"interleave/parse"
)

// P3.1

var a, b, c = name("a"), name("b"), name("c")

func TestExamples(t *testing.T) {
	wantExpr(t, op(api.ESub, a, op(api.ESub, b, c)), "a - (b - c)")
	wantExpr(t, op(api.ESub, op(api.ESub, a, b), c), "a - b - c")
	wantExpr(t, op(api.ENot, op(api.EEq, a, num(1))), "!(a == 1)")
	wantExpr(t, op(api.ENeg, op(api.ENeg, a)), "--a")
	s := api.Stmt{Op: api.SIf, Expr: name("x"), Body: []api.Stmt{{Op: api.SAssign, Name: "y", Expr: num(1)}}}
	if got := Stmt(s, 1); got != "  if x {\n    y = 1;\n  }\n" {
		t.Errorf("Stmt = %q", got)
	}
}

func TestPrimaries(t *testing.T) {
	for n, want := range map[int64]string{0: "0", 7: "7", 10: "10", 1000000: "1000000", math.MaxInt64: "9223372036854775807"} {
		wantExpr(t, num(n), want)
	}
	for _, s := range []string{"a", "Z", "x_1", "If", strings.Repeat("n", api.MaxName)} {
		wantExpr(t, name(s), s)
		wantExpr(t, element(s, num(0)), s+"[0]")
	}
	wantExpr(t, element("x", element("y", element("z", a))), "x[y[z[a]]]")
	wantExpr(t, element("x", op(api.EOr, a, b)), "x[a || b]")
	wantExpr(t, op(api.EMul, element("x", op(api.EOr, a, b)), op(api.ENeg, element("y", op(api.ELt, a, b)))), "x[a || b] * -y[a < b]")
}

type sign struct {
	op, level int
	text      string
}

var binaries = []sign{
	{api.EOr, 1, "||"}, {api.EAnd, 2, "&&"},
	{api.EEq, 3, "=="}, {api.ENe, 3, "!="}, {api.ELt, 3, "<"}, {api.ELe, 3, "<="}, {api.EGt, 3, ">"}, {api.EGe, 3, ">="},
	{api.EAdd, 4, "+"}, {api.ESub, 4, "-"}, {api.EMul, 5, "*"}, {api.EDiv, 5, "/"}, {api.EMod, 5, "%"},
}

var unaries = []sign{{api.ENeg, 6, "-"}, {api.ENot, 6, "!"}}

func TestOperators(t *testing.T) {
	for _, s := range unaries {
		wantExpr(t, op(s.op, a), s.text+"a")
		wantExpr(t, op(s.op, num(1)), s.text+"1")
		wantExpr(t, op(s.op, element("x", num(1))), s.text+"x[1]")
	}
	for _, s := range binaries {
		wantExpr(t, op(s.op, a, num(1)), "a "+s.text+" 1")
		wantExpr(t, op(s.op, element("x", a), b), "x[a] "+s.text+" b")
	}
}

// inParentheses puts a text in parentheses if its level is below the one that its place requires.
func inParentheses(text string, level, required int) string {
	if level < required {
		return "(" + text + ")"
	}
	return text
}

// Each pair of operators, with the inner one on either side of the outer one.
func TestLevels(t *testing.T) {
	for _, outer := range binaries {
		left, right := outer.level, outer.level+1
		if outer.level == 3 {
			left = 4
		}
		for _, inner := range binaries {
			e, text := op(inner.op, a, b), "a "+inner.text+" b"
			wantExpr(t, op(outer.op, e, c), inParentheses(text, inner.level, left)+" "+outer.text+" c")
			wantExpr(t, op(outer.op, c, e), "c "+outer.text+" "+inParentheses(text, inner.level, right))
			wantExpr(t, op(outer.op, e, e), inParentheses(text, inner.level, left)+" "+outer.text+" "+inParentheses(text, inner.level, right))
		}
		for _, inner := range unaries {
			e := op(inner.op, a)
			wantExpr(t, op(outer.op, e, c), inner.text+"a "+outer.text+" c")
			wantExpr(t, op(outer.op, c, e), "c "+outer.text+" "+inner.text+"a")
		}
	}
	for _, outer := range unaries {
		for _, inner := range binaries {
			wantExpr(t, op(outer.op, op(inner.op, a, b)), outer.text+"(a "+inner.text+" b)")
			wantExpr(t, element("x", op(outer.op, op(inner.op, a, b))), "x["+outer.text+"(a "+inner.text+" b)]")
		}
		for _, inner := range unaries {
			wantExpr(t, op(outer.op, op(inner.op, a)), outer.text+inner.text+"a")
			wantExpr(t, op(outer.op, op(inner.op, op(outer.op, a))), outer.text+inner.text+outer.text+"a")
		}
	}
	for _, inner := range binaries {
		wantExpr(t, element("x", op(inner.op, a, b)), "x[a "+inner.text+" b]")
	}
	for _, inner := range unaries {
		wantExpr(t, element("x", op(inner.op, a)), "x["+inner.text+"a]")
	}
}

func TestComparisonsInComparisons(t *testing.T) {
	wantExpr(t, op(api.EEq, op(api.EEq, a, b), c), "(a == b) == c")
	wantExpr(t, op(api.EEq, a, op(api.EEq, b, c)), "a == (b == c)")
	wantExpr(t, op(api.ELt, op(api.EGe, a, b), op(api.ENe, b, c)), "(a >= b) < (b != c)")
	wantExpr(t, op(api.EGt, op(api.ELe, op(api.EGt, a, b), c), num(1)), "((a > b) <= c) > 1")
	wantExpr(t, op(api.EAnd, op(api.ELt, a, b), op(api.ELt, b, c)), "a < b && b < c")
	wantExpr(t, op(api.ELt, op(api.EAnd, a, b), op(api.EAdd, b, c)), "(a && b) < b + c")
}

func TestLongerExpressions(t *testing.T) {
	wantExpr(t, op(api.EAdd, op(api.EAdd, op(api.EAdd, a, b), c), num(1)), "a + b + c + 1")
	wantExpr(t, op(api.EAdd, a, op(api.EAdd, b, op(api.EAdd, c, num(1)))), "a + (b + (c + 1))")
	wantExpr(t, op(api.EOr, op(api.EAnd, op(api.ENot, a), b), op(api.EAnd, b, op(api.EOr, c, a))), "!a && b || b && (c || a)")
	wantExpr(t, op(api.EMod, op(api.EDiv, op(api.EMul, a, b), c), op(api.EMul, b, c)), "a * b / c % (b * c)")
	wantExpr(t, op(api.ESub, a, op(api.ENeg, op(api.ENeg, b))), "a - --b")
	wantExpr(t, op(api.ENot, op(api.ENeg, op(api.ENot, op(api.EMul, a, op(api.ENeg, op(api.EAdd, b, c)))))), "!-!(a * -(b + c))")
}

// P3.2

func TestSimpleStatements(t *testing.T) {
	wantStmt(t, api.Stmt{Op: api.SAssign, Name: "x", Expr: num(1)}, "x = 1;")
	wantStmt(t, api.Stmt{Op: api.SAssign, Name: "x", Expr: op(api.EOr, a, b)}, "x = a || b;")
	wantStmt(t, api.Stmt{Op: api.SAssign, Name: "x", Index: []api.Expr{num(2)}, Expr: name("y")}, "x[2] = y;")
	wantStmt(t, api.Stmt{Op: api.SAssign, Name: "x", Index: []api.Expr{op(api.EOr, a, b)}, Expr: element("x", a)}, "x[a || b] = x[a];")
	wantStmt(t, api.Stmt{Op: api.SWait, Name: "c1"}, "wait c1;")
	wantStmt(t, api.Stmt{Op: api.SNotify, Name: "c2"}, "notify c2;")
	wantStmt(t, api.Stmt{Op: api.SNotifyAll, Name: "c3"}, "notifyall c3;")
	wantStmt(t, api.Stmt{Op: api.SSpawn, Name: "u"}, "spawn u;")
	wantStmt(t, api.Stmt{Op: api.SJoin, Name: "v"}, "join v;")
	wantStmt(t, api.Stmt{Op: api.SSet, Name: "f", Expr: op(api.ENeg, a)}, "set f -a;")
	wantStmt(t, api.Stmt{Op: api.SSet, Name: "f", Expr: op(api.EMul, op(api.EAdd, a, b), c)}, "set f (a + b) * c;")
	wantStmt(t, api.Stmt{Op: api.SGet, Name: "r", Arg: "f"}, "get r f;")
}

var blockHeads = []struct {
	s    api.Stmt
	head string
}{
	{api.Stmt{Op: api.SIf, Expr: op(api.EAnd, a, b)}, "if a && b"},
	{api.Stmt{Op: api.SIf, Expr: op(api.EMul, op(api.EAdd, a, b), c)}, "if (a + b) * c"},
	{api.Stmt{Op: api.SWhile, Expr: op(api.ENot, element("x", num(0)))}, "while !x[0]"},
	{api.Stmt{Op: api.SLock, Name: "m"}, "lock m"},
	{api.Stmt{Op: api.SRead, Name: "r"}, "read r"},
	{api.Stmt{Op: api.SWrite, Name: "w"}, "write w"},
	{api.Stmt{Op: api.STransaction}, "transaction"},
	{api.Stmt{Op: api.SAtomic}, "atomic"},
}

func TestBlocks(t *testing.T) {
	wait, spawn := api.Stmt{Op: api.SWait, Name: "c"}, api.Stmt{Op: api.SSpawn, Name: "u"}
	for _, h := range blockHeads {
		s := h.s
		wantStmt(t, s, h.head+" {", "}")
		s.Body = []api.Stmt{wait}
		wantStmt(t, s, h.head+" {", "  wait c;", "}")
		s.Body = []api.Stmt{wait, spawn, wait}
		wantStmt(t, s, h.head+" {", "  wait c;", "  spawn u;", "  wait c;", "}")
		for _, inner := range blockHeads {
			in := inner.s
			in.Body = []api.Stmt{wait}
			s.Body = []api.Stmt{inner.s, in, spawn}
			wantStmt(t, s, h.head+" {", "  "+inner.head+" {", "  }", "  "+inner.head+" {", "    wait c;", "  }", "  spawn u;", "}")
		}
	}
}

func TestElse(t *testing.T) {
	wait, spawn := api.Stmt{Op: api.SWait, Name: "c"}, api.Stmt{Op: api.SSpawn, Name: "u"}
	s := api.Stmt{Op: api.SIf, Expr: a, Else: []api.Stmt{}}
	wantStmt(t, s, "if a {", "}")
	s.Else = []api.Stmt{wait}
	wantStmt(t, s, "if a {", "} else {", "  wait c;", "}")
	s.Body = []api.Stmt{spawn}
	wantStmt(t, s, "if a {", "  spawn u;", "} else {", "  wait c;", "}")
	s.Body, s.Else = []api.Stmt{spawn, wait}, []api.Stmt{s, spawn}
	wantStmt(t, s, "if a {", "  spawn u;", "  wait c;", "} else {", "  if a {", "    spawn u;", "  } else {", "    wait c;", "  }", "  spawn u;", "}")
	// An if that is the only statement of Else is one depth further inside, too.
	s = api.Stmt{Op: api.SIf, Expr: a, Else: []api.Stmt{{Op: api.SIf, Expr: b, Else: []api.Stmt{wait}}}}
	wantStmt(t, s, "if a {", "} else {", "  if b {", "  } else {", "    wait c;", "  }", "}")
}

func TestDepths(t *testing.T) {
	s := api.Stmt{Op: api.SLock, Name: "m", Body: []api.Stmt{{Op: api.SAtomic}}}
	for _, depth := range []int{-1, -2, -1000, math.MinInt} {
		if got := Stmt(s, depth); got != "lock m {\n  atomic {\n  }\n}\n" {
			t.Errorf("Stmt at depth %d = %q", depth, got)
		}
	}
	for _, depth := range []int{1, 7, 100, 1000} {
		blanks := strings.Repeat(" ", 2*depth)
		want := blanks + "lock m {\n" + blanks + "  atomic {\n" + blanks + "  }\n" + blanks + "}\n"
		if got := Stmt(s, depth); got != want {
			t.Errorf("Stmt at depth %d = %q", depth, got)
		}
	}
}

// P3.3

func TestDeclarations(t *testing.T) {
	rows := []struct {
		d    api.Decl
		want string
	}{
		{api.Decl{Kind: api.DVar, Name: "x"}, "var x;"},
		{api.Decl{Kind: api.DVar, Name: "x", Init: 1}, "var x = 1;"},
		{api.Decl{Kind: api.DVar, Name: "x", Init: -1}, "var x = -1;"},
		{api.Decl{Kind: api.DVar, Name: "x", Init: math.MaxInt64}, "var x = 9223372036854775807;"},
		{api.Decl{Kind: api.DVar, Name: "x", Init: math.MinInt64 + 1}, "var x = -9223372036854775807;"},
		{api.Decl{Kind: api.DVar, Name: "a", Size: 1}, "var a[1];"},
		{api.Decl{Kind: api.DVar, Name: "a", Size: 4, Init: 20}, "var a[4] = 20;"},
		{api.Decl{Kind: api.DVar, Name: "a", Size: math.MaxInt, Init: math.MinInt64 + 1}, "var a[9223372036854775807] = -9223372036854775807;"},
		{api.Decl{Kind: api.DVolatile, Name: "v"}, "volatile v;"},
		{api.Decl{Kind: api.DVolatile, Name: "v", Init: 10}, "volatile v = 10;"},
		{api.Decl{Kind: api.DVolatile, Name: "v", Init: -7}, "volatile v = -7;"},
		{api.Decl{Kind: api.DVolatile, Name: "v", Init: math.MaxInt64}, "volatile v = 9223372036854775807;"},
		{api.Decl{Kind: api.DVolatile, Name: "v", Init: math.MinInt64 + 1}, "volatile v = -9223372036854775807;"},
		{api.Decl{Kind: api.DMutex, Name: "m"}, "mutex m;"},
		{api.Decl{Kind: api.DRWLock, Name: "r"}, "rwlock r;"},
		{api.Decl{Kind: api.DCond, Name: "c", On: "m"}, "cond c m;"},
		{api.Decl{Kind: api.DFuture, Name: "f"}, "future f;"},
	}
	var all api.Program
	text := ""
	for _, r := range rows {
		p := api.Program{Decls: []api.Decl{r.d}, Threads: []api.Thread{{Name: "t"}}}
		wantProgram(t, p, r.want+"\nthread t() {\n}\n")
		all.Decls = append(all.Decls, r.d)
		text += r.want + "\n"
	}
	all.Threads = []api.Thread{{Name: "t"}, {Name: "u"}}
	wantProgram(t, all, text+"thread t() {\n}\nthread u() {\n}\n")
}

func TestThreads(t *testing.T) {
	wait := api.Stmt{Op: api.SWait, Name: "c"}
	p := api.Program{Threads: []api.Thread{
		{Name: "t"},
		{Name: "u", Locals: []string{"p"}, Body: []api.Stmt{wait}},
		{Name: "Thread", Locals: []string{"p", "q"}},
		{Name: "t", Locals: []string{"p", "q", "p", "longestname1"}, Body: []api.Stmt{wait, {Op: api.SIf, Expr: a, Body: []api.Stmt{wait}, Else: []api.Stmt{wait}}, wait}},
	}}
	wantProgram(t, p, "thread t() {\n}\nthread u(p) {\n  wait c;\n}\nthread Thread(p, q) {\n}\nthread t(p, q, p, longestname1) {\n  wait c;\n  if a {\n    wait c;\n  } else {\n    wait c;\n  }\n  wait c;\n}\n")
}

const canonical = `var x;
var arr[3] = -2;
volatile v = 7;
mutex m;
rwlock r;
cond c m;
future f;
thread t(p, q) {
  p = arr[x + 1] * (2 - x);
  arr[p || q] = p;
  if p == 1 {
    while !v {
      lock m {
        wait c;
        notify c;
        notifyall c;
      }
    }
  } else {
    read r {
      write r {
        atomic {
        }
      }
    }
  }
  transaction {
    get q f;
    set f -q;
  }
  spawn u;
  join u;
}
thread u() {
}
`

func TestCanonicalTextStays(t *testing.T) {
	p, err, line := parse.Parse(canonical)
	if err != api.OK {
		t.Fatalf("Parse: error %d, line %d", err, line)
	}
	wantProgram(t, p, canonical)
}

func TestOtherTextsBecomeCanonical(t *testing.T) {
	for s, want := range map[string]string{
		"thread t(){}": "thread t() {\n}\n",
		"var x=0;volatile\tv=-0;thread t ( a,b )\r\n{ } // end": "var x;\nvolatile v;\nthread t(a, b) {\n}\n",
		"var a[003]=007;thread t(){a[(0)]=((1));}":              "var a[3] = 7;\nthread t() {\n  a[0] = 1;\n}\n",
		"thread t(){if x{}else{}while(x){x=(1+2)+3;}}":          "thread t() {\n  if x {\n  }\n  while x {\n    x = 1 + 2 + 3;\n  }\n}\n",
		"thread t(){set f(1);set f\n-1;get\na f;}":              "thread t() {\n  set f 1;\n  set f -1;\n  get a f;\n}\n",
	} {
		p, err, line := parse.Parse(s)
		if err != api.OK {
			t.Errorf("Parse(%q): error %d, line %d", s, err, line)
			continue
		}
		wantProgram(t, p, want)
	}
}
