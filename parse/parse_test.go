package parse

import (
	"math"
	"strings"
	"testing"

	"interleave/api"
)

// P2.1: declarations and threads

func TestDeclarations(t *testing.T) {
	thread := api.Thread{Name: "t", Line: 1}
	rows := map[string]api.Decl{
		"var x;":                           {Kind: api.DVar, Name: "x"},
		"var x = 5;":                       {Kind: api.DVar, Name: "x", Init: 5},
		"var x = 0;":                       {Kind: api.DVar, Name: "x"},
		"var x = - 0;":                     {Kind: api.DVar, Name: "x"},
		"var x = -5;":                      {Kind: api.DVar, Name: "x", Init: -5},
		"var x = -007;":                    {Kind: api.DVar, Name: "x", Init: -7},
		"var x = 9223372036854775807;":     {Kind: api.DVar, Name: "x", Init: math.MaxInt64},
		"var x = -9223372036854775807;":    {Kind: api.DVar, Name: "x", Init: -math.MaxInt64},
		"var x[1];":                        {Kind: api.DVar, Name: "x", Size: 1},
		"var x[004] = 3;":                  {Kind: api.DVar, Name: "x", Size: 4, Init: 3},
		"var x[9223372036854775807] = -1;": {Kind: api.DVar, Name: "x", Size: math.MaxInt64, Init: -1},
		"volatile x;":                      {Kind: api.DVolatile, Name: "x"},
		"volatile x = 12;":                 {Kind: api.DVolatile, Name: "x", Init: 12},
		"volatile x = -12;":                {Kind: api.DVolatile, Name: "x", Init: -12},
		"mutex x;":                         {Kind: api.DMutex, Name: "x"},
		"rwlock x;":                        {Kind: api.DRWLock, Name: "x"},
		"cond x m;":                        {Kind: api.DCond, Name: "x", On: "m"},
		"future x;":                        {Kind: api.DFuture, Name: "x"},
	}
	for s, want := range rows {
		want.Line = 1
		wantProgram(t, s+" thread t() { }", api.Program{Decls: []api.Decl{want}, Threads: []api.Thread{thread}})
	}
}

func TestDeclarationsInOrder(t *testing.T) {
	wantProgram(t, "\nmutex m;\n\nvar x[2]\n= 3; cond c m;\nvar\nx; thread t(){}", api.Program{
		Decls: []api.Decl{
			{Kind: api.DMutex, Line: 2, Name: "m"},
			{Kind: api.DVar, Line: 4, Name: "x", Size: 2, Init: 3},
			{Kind: api.DCond, Line: 5, Name: "c", On: "m"},
			{Kind: api.DVar, Line: 6, Name: "x"},
		},
		Threads: []api.Thread{{Name: "t", Line: 7}},
	})
}

func TestThreads(t *testing.T) {
	wantProgram(t, "thread t(){x=x+1;}", api.Program{Threads: []api.Thread{{Name: "t", Line: 1, Body: []api.Stmt{
		{Op: api.SAssign, Line: 1, Name: "x", Expr: op(api.EAdd, name("x"), num(1))},
	}}}})
	wantProgram(t, "thread t(){}", api.Program{Threads: []api.Thread{{Name: "t", Line: 1}}})
	wantProgram(t, "thread t(a)\n{} // end\nthread\nu(c,\nb, a, b) { } thread t() { wait a; join b; }", api.Program{Threads: []api.Thread{
		{Name: "t", Line: 1, Locals: []string{"a"}},
		{Name: "u", Line: 3, Locals: []string{"c", "b", "a", "b"}},
		{Name: "t", Line: 5, Body: []api.Stmt{{Op: api.SWait, Line: 5, Name: "a"}, {Op: api.SJoin, Line: 5, Name: "b"}}},
	}})
}

// The limits of later layers are none of this one's.
func TestManyParts(t *testing.T) {
	var want api.Program
	var s strings.Builder
	for range 60 {
		want.Decls = append(want.Decls, api.Decl{Kind: api.DMutex, Line: 1, Name: "m"})
		s.WriteString("mutex m;")
	}
	thread := api.Thread{Name: "t", Line: 1, Locals: []string{"a"}}
	s.WriteString("thread t(a")
	for range 60 {
		thread.Locals = append(thread.Locals, "b")
		s.WriteString(",b")
	}
	s.WriteString("){")
	for range 100 {
		thread.Body = append(thread.Body, api.Stmt{Op: api.SJoin, Line: 1, Name: "u"})
		s.WriteString("join u;")
	}
	s.WriteString("}")
	want.Threads = append(want.Threads, thread)
	for range 60 {
		want.Threads = append(want.Threads, api.Thread{Name: "u", Line: 1})
		s.WriteString("thread u(){}")
	}
	wantProgram(t, s.String(), want)
}

// P2.1: statements

func TestStatements(t *testing.T) {
	x, one := name("x"), num(1)
	inner := []api.Stmt{{Op: api.SJoin, Line: 1, Name: "u"}}
	other := []api.Stmt{{Op: api.SSpawn, Line: 1, Name: "v"}, {Op: api.SAtomic, Line: 1}}
	rows := map[string]api.Stmt{
		"y = x;":                    {Op: api.SAssign, Name: "y", Expr: x},
		"y = (x) - -1;":             {Op: api.SAssign, Name: "y", Expr: op(api.ESub, x, op(api.ENeg, one))},
		"y[x] = 1;":                 {Op: api.SAssign, Name: "y", Index: []api.Expr{x}, Expr: one},
		"y[y[1]] = y[x];":           {Op: api.SAssign, Name: "y", Index: []api.Expr{element("y", one)}, Expr: element("y", x)},
		"if x { }":                  {Op: api.SIf, Expr: x},
		"if x { } else { }":         {Op: api.SIf, Expr: x},
		"if x { join u; }":          {Op: api.SIf, Expr: x, Body: inner},
		"if x { join u; } else { }": {Op: api.SIf, Expr: x, Body: inner},
		"if x { } else { join u; }": {Op: api.SIf, Expr: x, Else: inner},
		"if (x) { join u; } else{spawn v;atomic{} }": {Op: api.SIf, Expr: x, Body: inner, Else: other},
		"while x { }":                    {Op: api.SWhile, Expr: x},
		"while x < 1 { join u; }":        {Op: api.SWhile, Expr: op(api.ELt, x, one), Body: inner},
		"lock m { }":                     {Op: api.SLock, Name: "m"},
		"lock m { join u; }":             {Op: api.SLock, Name: "m", Body: inner},
		"read r { spawn v; atomic { } }": {Op: api.SRead, Name: "r", Body: other},
		"write r { join u; }":            {Op: api.SWrite, Name: "r", Body: inner},
		"transaction { }":                {Op: api.STransaction},
		"transaction { join u; }":        {Op: api.STransaction, Body: inner},
		"atomic { join u; }":             {Op: api.SAtomic, Body: inner},
		"wait c;":                        {Op: api.SWait, Name: "c"},
		"notify c;":                      {Op: api.SNotify, Name: "c"},
		"notifyall c;":                   {Op: api.SNotifyAll, Name: "c"},
		"spawn u;":                       {Op: api.SSpawn, Name: "u"},
		"join u;":                        {Op: api.SJoin, Name: "u"},
		"set f x;":                       {Op: api.SSet, Name: "f", Expr: x},
		"set f -1;":                      {Op: api.SSet, Name: "f", Expr: op(api.ENeg, one)},
		"set f (x) + 1;":                 {Op: api.SSet, Name: "f", Expr: op(api.EAdd, x, one)},
		"get a f;":                       {Op: api.SGet, Name: "a", Arg: "f"},
	}
	for s, want := range rows {
		want.Line = 1
		body := []api.Stmt{want}
		wantProgram(t, "thread t() { "+s+" }", api.Program{Threads: []api.Thread{{Name: "t", Line: 1, Body: body}}})
		// The same within another statement, and behind another one.
		around := []api.Stmt{{Op: api.SNotify, Line: 1, Name: "c"}, {Op: api.SLock, Line: 1, Name: "m", Body: body}}
		wantProgram(t, "thread t() { notify c; lock m { "+s+" } }", api.Program{Threads: []api.Thread{{Name: "t", Line: 1, Body: around}}})
	}
}

func TestStatementLines(t *testing.T) {
	s := "thread t() {\nx\n=\n1;\nif\nx\n{\nwait\nc; } else\n{ atomic\n{ } a[\n0]=1; } get\na f;\n}"
	wantProgram(t, s, api.Program{Threads: []api.Thread{{Name: "t", Line: 1, Body: []api.Stmt{
		{Op: api.SAssign, Line: 2, Name: "x", Expr: num(1)},
		{Op: api.SIf, Line: 5, Expr: name("x"),
			Body: []api.Stmt{{Op: api.SWait, Line: 8, Name: "c"}},
			Else: []api.Stmt{
				{Op: api.SAtomic, Line: 10},
				{Op: api.SAssign, Line: 11, Name: "a", Index: []api.Expr{num(0)}, Expr: num(1)},
			}},
		{Op: api.SGet, Line: 12, Name: "a", Arg: "f"},
	}}}})
}

func TestElseBelongsToTheNearestIf(t *testing.T) {
	wantProgram(t, "thread t(){if a{if b{}}else{join u;}}", api.Program{Threads: []api.Thread{{Name: "t", Line: 1, Body: []api.Stmt{
		{Op: api.SIf, Line: 1, Expr: name("a"), Body: []api.Stmt{{Op: api.SIf, Line: 1, Expr: name("b")}}, Else: []api.Stmt{{Op: api.SJoin, Line: 1, Name: "u"}}},
	}}}})
	wantProgram(t, "thread t(){if a{if b{}else{join u;}}}", api.Program{Threads: []api.Thread{{Name: "t", Line: 1, Body: []api.Stmt{
		{Op: api.SIf, Line: 1, Expr: name("a"), Body: []api.Stmt{{Op: api.SIf, Line: 1, Expr: name("b"), Else: []api.Stmt{{Op: api.SJoin, Line: 1, Name: "u"}}}}},
	}}}})
}

// P2.1: expressions

// The binary operators with their signs and levels, a second time.
var binaries = []struct {
	sign      string
	op, level int
}{
	{"||", api.EOr, 1}, {"&&", api.EAnd, 2},
	{"==", api.EEq, 3}, {"!=", api.ENe, 3}, {"<", api.ELt, 3}, {"<=", api.ELe, 3}, {">", api.EGt, 3}, {">=", api.EGe, 3},
	{"+", api.EAdd, 4}, {"-", api.ESub, 4},
	{"*", api.EMul, 5}, {"/", api.EDiv, 5}, {"%", api.EMod, 5},
}

var unaries = []struct {
	sign string
	op   int
}{{"-", api.ENeg}, {"!", api.ENot}}

func TestOperands(t *testing.T) {
	rows := map[string]api.Expr{
		"0":                      num(0),
		"007":                    num(7),
		"9223372036854775807":    num(math.MaxInt64),
		"a":                      name("a"),
		"(a)":                    name("a"),
		"((( 1 )))":              num(1),
		"a[0]":                   element("a", num(0)),
		"a[b[c[1]]]":             element("a", element("b", element("c", num(1)))),
		"a[(1)]":                 element("a", num(1)),
		"a[1 || b]":              element("a", op(api.EOr, num(1), name("b"))),
		"-9223372036854775807":   op(api.ENeg, num(math.MaxInt64)),
		"--1":                    op(api.ENeg, op(api.ENeg, num(1))),
		"-!-a":                   op(api.ENeg, op(api.ENot, op(api.ENeg, name("a")))),
		"-a[-1]":                 op(api.ENeg, element("a", op(api.ENeg, num(1)))),
		"-(a + b)":               op(api.ENeg, op(api.EAdd, name("a"), name("b"))),
		"a\n-\t// minus\r\n - b": op(api.ESub, name("a"), op(api.ENeg, name("b"))),
	}
	for s, want := range rows {
		wantExpr(t, s, want)
	}
}

func TestExamples(t *testing.T) {
	wantExpr(t, "1-2-3", op(api.ESub, op(api.ESub, num(1), num(2)), num(3)))
	wantExpr(t, "-a*b", op(api.EMul, op(api.ENeg, name("a")), name("b")))
	wantExprError(t, "a<b<c", api.ErrSyntax, 1)
	wantError(t, "", api.ErrSyntax, 1)
	wantError(t, "thread t(){", api.ErrSyntax, 1)
	wantProgram(t, "var x;thread t(){x=x+1;}", api.Program{
		Decls: []api.Decl{{Kind: api.DVar, Line: 1, Name: "x"}},
		Threads: []api.Thread{{Name: "t", Line: 1, Body: []api.Stmt{
			{Op: api.SAssign, Line: 1, Name: "x", Expr: op(api.EAdd, name("x"), num(1))},
		}}},
	})
}

func TestLevelsOfOperators(t *testing.T) {
	a, b, c := name("a"), num(2), element("x", num(0))
	for _, f := range binaries {
		wantExpr(t, "a"+f.sign+"2", op(f.op, a, b))
		for _, g := range binaries {
			first, second := op(g.op, op(f.op, a, b), c), op(f.op, a, op(g.op, b, c))
			wantExpr(t, "(a"+f.sign+"2)"+g.sign+"x[0]", first)
			wantExpr(t, "a"+f.sign+"(2"+g.sign+"x[0])", second)
			plain := "a " + f.sign + " 2\n" + g.sign + " x[0]"
			switch {
			case f.level == 3 && g.level == 3:
				wantExprError(t, plain, api.ErrSyntax, 2)
			case f.level >= g.level:
				wantExpr(t, plain, first)
			default:
				wantExpr(t, plain, second)
			}
		}
		for _, u := range unaries {
			wantExpr(t, u.sign+"a"+f.sign+u.sign+"2", op(f.op, op(u.op, a), op(u.op, b)))
			wantExpr(t, u.sign+"(a"+f.sign+"2)", op(u.op, op(f.op, a, b)))
		}
	}
}

func TestLongSeries(t *testing.T) {
	for _, f := range binaries {
		want := name("a")
		for range 20 {
			want = op(f.op, want, name("b"))
		}
		s := "a" + strings.Repeat(f.sign+"b", 20)
		if f.level == 3 {
			wantExprError(t, s, api.ErrSyntax, 1)
		} else {
			wantExpr(t, s, want)
		}
	}
	wantExpr(t, "a-b+c-d", op(api.ESub, op(api.EAdd, op(api.ESub, name("a"), name("b")), name("c")), name("d")))
	wantExpr(t, "a/b*c%d", op(api.EMod, op(api.EMul, op(api.EDiv, name("a"), name("b")), name("c")), name("d")))
	wantExpr(t, "a<b&&c<d||e>=f&&!g", op(api.EOr,
		op(api.EAnd, op(api.ELt, name("a"), name("b")), op(api.ELt, name("c"), name("d"))),
		op(api.EAnd, op(api.EGe, name("e"), name("f")), op(api.ENot, name("g")))))
}

// P2.2

func TestErrorsOfTokens(t *testing.T) {
	long := strings.Repeat("w", api.MaxName+1)
	wantError(t, strings.Repeat(" ", api.MaxSource+1), api.ErrTooLarge, 0)
	wantExprError(t, strings.Repeat("1+", api.MaxSource), api.ErrTooLarge, 0)
	// What Scan refuses counts ahead of tokens that do not fit.
	wantError(t, "} }\n\n"+long, api.ErrTooLarge, 3)
	wantError(t, "var x\n} thread\n1a", api.ErrSyntax, 3)
	wantError(t, "thread t() { x = 9223372036854775808; }", api.ErrSyntax, 1)
	wantError(t, "thread t() { }\n#", api.ErrSyntax, 2)
	wantExprError(t, "a b\n"+long, api.ErrTooLarge, 2)
	wantExprError(t, "a b\nc\n&", api.ErrSyntax, 3)
	wantExprError(t, "1\n+ _x", api.ErrSyntax, 2)
}

func TestTokensThatEndTooEarly(t *testing.T) {
	for _, s := range []string{"", " ", "\n\n", "// thread t(){}", "\n//\n"} {
		wantError(t, s, api.ErrSyntax, 1)
		wantExprError(t, s, api.ErrSyntax, 1)
	}
	wantError(t, "\n\nvar x;\n\n", api.ErrSyntax, 3)
	wantError(t, "thread t() {\nx = 1;\n\n// end", api.ErrSyntax, 2)
	wantError(t, "thread t() {\nx = 1;\nif x {\n}\n\n", api.ErrSyntax, 4)
	wantError(t, "thread t() { }\nthread\n", api.ErrSyntax, 2)
	wantExprError(t, "\na +\n", api.ErrSyntax, 2)
	wantExprError(t, "(a\n)+(\nb\n\n", api.ErrSyntax, 3)
}

// cut is a whole text with each token on a line of its own.
const cut = "var\nx\n[\n3\n]\n=\n-\n1\n;\nvolatile\nv\n=\n1\n;\ncond\nc\nm\n;\nmutex\nm\n;\nrwlock\nr\n;\nfuture\nf\n;\n" +
	"thread\nt\n(\np\n,\nq\n)\n{\nx\n[\np\n]\n=\n-\n(\n1\n+\nx\n[\n0\n]\n)\n;\nif\np\n{\n}\nelse\n{\nset\nf\n!\n1\n;\n}\nwhile\np\n<\n1\n{\nget\np\nf\n;\n}\n" +
	"lock\nm\n{\nwait\nc\n;\n}\nread\nr\n{\nnotify\nc\n;\n}\nwrite\nr\n{\nnotifyall\nc\n;\n}\ntransaction\n{\n}\natomic\n{\n}\nspawn\nu\n;\njoin\nu\n;\n}\n"

func TestEveryBeginningEndsTooEarly(t *testing.T) {
	if _, e, line := Parse(cut); e != api.OK || line != 0 {
		t.Fatalf("the whole text: error %d, line %d", e, line)
	}
	lines := strings.Split(strings.TrimSpace(cut), "\n")
	for n := 1; n < len(lines); n++ {
		s := strings.Join(lines[:n], "\n")
		wantError(t, s, api.ErrSyntax, n)
		wantError(t, s+"\n\n", api.ErrSyntax, n)
		wantError(t, s+"\n\nthread else", api.ErrSyntax, n+2)
	}
}

func TestNumbersInBracketsOfDeclarations(t *testing.T) {
	for _, zero := range []string{"0", "00", "0000000000000000000000"} {
		wantError(t, "var x[\n"+zero+"\n]\n; thread t(){}", api.ErrSyntax, 2)
		wantError(t, "var x[\n"+zero, api.ErrSyntax, 2)
		wantError(t, "var y;\nvar x[\n"+zero+"\n\nelse", api.ErrSyntax, 3)
		wantProgram(t, "thread t(){x["+zero+"]=0;}", api.Program{Threads: []api.Thread{{Name: "t", Line: 1, Body: []api.Stmt{
			{Op: api.SAssign, Line: 1, Name: "x", Index: []api.Expr{num(0)}, Expr: num(0)},
		}}}})
	}
	wantError(t, "var x[\n-\n1]; thread t(){}", api.ErrSyntax, 2)
	wantError(t, "var x[\nn]; thread t(){}", api.ErrSyntax, 2)
	wantError(t, "var x[\n]; thread t(){}", api.ErrSyntax, 2)
	wantError(t, "var x[1\n+1]; thread t(){}", api.ErrSyntax, 2)
}

func TestDeclarationErrors(t *testing.T) {
	end := " thread t() { }"
	for _, s := range []string{
		"var x\ny;", "var\nif;", "var\n1;", "var x =\n;", "var x =\ny;", "var x = -\n-1;", "var x = 1\n+ 1;", "var x =\n+1;", "var x = 1\n[2];", "var x[1]\n[2];", "var x\n, y;", "var\n;", "var x\nthread",
		"volatile v\n[2];", "volatile\n;", "volatile v = - \nv;",
		"mutex m\n= 1;", "mutex m\nn;", "mutex\nlock;", "rwlock r\n[1];", "future f\n= 0;", "future\n;",
		"cond c\n;", "cond c m\nn;", "cond c\n= 1;", "cond c\nmutex;",
	} {
		wantError(t, s+end, api.ErrSyntax, 2)
	}
	wantError(t, "x = 1;"+end, api.ErrSyntax, 1)
	wantError(t, ";"+end, api.ErrSyntax, 1)
	wantError(t, "var x;\n;"+end, api.ErrSyntax, 2)
}

func TestThreadErrors(t *testing.T) {
	for _, s := range []string{
		"thread\n(){}", "thread\nthread(){}", "thread t\n{}", "thread t(\n{}", "thread t(\n,a){}", "thread t(a,\n){}", "thread t(a\nb){}", "thread t(a,\n1){}", "thread t(a,\nif){}", "thread t()\n;", "thread t()\nx = 1;", "thread t()\nthread u(){}",
		"thread t(){}\nvar x;", "thread t(){}\n}", "thread t(){}\n;", "thread t(){}\nx", "thread t(){}\n0 thread u(){}", "thread t(){}\n{}",
	} {
		wantError(t, s, api.ErrSyntax, 2)
	}
}

func TestStatementErrors(t *testing.T) {
	for _, s := range []string{
		"x\n;", "x\n1;", "x\n== 1;", "x =\n;", "x =\n=1;", "x = 1\n2;", "x = 1\n}", "x[\n] = 1;", "x[1\n= 1;", "x[1]\n[2] = 1;", "x[1\n,2] = 1;", "x[1]\n;", "x\n(1) = 1;", "\n1 = x;", "\n(x) = 1;", "\n-x = 1;", "x = y\n= 1;",
		"if\n{ }", "if x\n;", "if x\ny { }", "if x { } else { }\nelse { }", "if x { } else\nif x { }", "if x { } else\nx = 1;", "while\n{ }", "while x { }\nelse { }", "while x\n= 1 { }",
		"lock\n{ }", "lock m\n;", "lock m\nn { }", "lock\n(m) { }", "lock m\n[0] { }", "read\n1 { }", "write r\n= 1;", "transaction\nm { }", "transaction\n;", "atomic\nm { }", "atomic\n(1) { }",
		"wait\n;", "wait c\nm;", "wait\n(c);", "notify c\n{ }", "notifyall\n1;", "notify all\nc;", "spawn\nthread;", "spawn u\n();", "join u\n, v;", "join\n;",
		"set\n;", "set f\n;", "set f\n= 1;", "set f\n[1];", "set f 1\n2;", "get a\n;", "get a\n1;", "get a f\ng;", "get a\n= f;", "get\n(a) f;",
		"\nelse { }", "\n;", "\n{ }", "\nthread u() { }", "\nvar x;", "\nmutex m;",
	} {
		wantError(t, "thread t() { "+s+" }", api.ErrSyntax, 2)
		wantError(t, "thread t() { if x { } lock m { "+s+" } }", api.ErrSyntax, 2)
	}
}

func TestExprErrors(t *testing.T) {
	for _, s := range []string{
		"a\nb", "1\na", "1\n1", "a\n(b)", "1\n[2]", "(a)\n[1]", "a[1]\n[2]", "a\n;", "a\n)", "(a\n]", "a[b\n)", "a[\n]", "(\n)", "a\n=b", "a\n,b", "a\n!b", "a\n{", "a +\n+ b", "a *\n/ b", "a ||\n&& b", "a ||\n|| b", "-\n+a", "!\n== a", "\n*a", "\nif", "a +\nwhile", "(a +\n)", "a < b\n< c", "a == b\n!= c", "a && b < c\n>= d || e", "(a < b) < c\n< d", "a < -\n< b",
	} {
		wantExprError(t, s, api.ErrSyntax, 2)
		wantExprError(t, s+"\n\n|| else", api.ErrSyntax, 2)
	}
}

// P2.2: an error gives no value, and success gives no line, however much has been read.

func TestErrorsGiveNoValue(t *testing.T) {
	wantError(t, "var x; mutex m; thread t(a) { x = 1; lock m { x = 2; } } thread u() { x = 1\n}", api.ErrSyntax, 2)
	wantError(t, "var x; thread t() { }\n\nvar y;", api.ErrSyntax, 3)
	wantExprError(t, "a + b * c\n\n)", api.ErrSyntax, 3)
}
