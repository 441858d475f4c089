package compile

import (
	"strconv"
	"strings"
	"testing"

	"interleave/api"
	"interleave/check"
)

// P6.3

// code returns the code of a text, which must be valid.
func code(t *testing.T, s string) api.Code {
	t.Helper()
	c, err, line := Program(program(t, s))
	if err != api.OK || line != 0 {
		t.Fatalf("Program(%q): error %d, line %d", s, err, line)
	}
	if !Valid(c) {
		t.Errorf("the code of %q is not valid", s)
	}
	return c
}

// listing returns the instructions of a thread, each with its site if that is another one than the site of the instruction ahead of it.
func listing(c api.ThreadCode) string {
	var b strings.Builder
	site := 0
	for _, i := range c.Instrs {
		if i.Site != site {
			site = i.Site
			b.WriteString("@" + strconv.Itoa(site) + " ")
		}
		b.WriteString(short(i) + "; ")
	}
	return strings.TrimSuffix(b.String(), "; ")
}

// short returns an instruction without the fields behind the last one that is not 0.
func short(i api.Instr) string {
	words := []string{"none", "const", "move", "unary", "binary", "jump", "load", "loadat", "store", "storeat", "branch", "acquire", "release", "readacquire", "readrelease", "writeacquire", "writerelease", "txbegin", "txend", "atomicbegin", "atomicend", "wait", "notify", "notifyall", "spawn", "join", "set", "get", "end"}
	fields := []int64{int64(i.A), int64(i.B), int64(i.C), i.N}
	for len(fields) > 0 && fields[len(fields)-1] == 0 {
		fields = fields[:len(fields)-1]
	}
	s := words[i.Op]
	for _, n := range fields {
		s += " " + strconv.FormatInt(n, 10)
	}
	return s
}

// A row is the body of the first thread, and the registers and instructions that it must give.
type row struct {
	body string
	regs int
	want string
}

func wantRows(t *testing.T, locals string, rows []row) {
	t.Helper()
	for _, r := range rows {
		c := code(t, everything+"thread t("+locals+") { "+r.body+" } thread u() { } thread w(k) { }")
		if got := listing(c.Threads[0]); got != r.want || c.Threads[0].Regs != r.regs {
			t.Errorf("%s\ngives %s (%d registers)\nwant  %s (%d registers)", r.body, got, c.Threads[0].Regs, r.want, r.regs)
		}
		for i, regs := range []int{0, 1} {
			if x := c.Threads[i+1]; x.Regs != regs || len(x.Instrs) != 1 || x.Instrs[0] != (api.Instr{Op: api.IEnd, Site: -1}) {
				t.Errorf("an empty thread gives %+v", x)
			}
		}
	}
}

// Cells: x 0, a 1 to 3, v 4, b 5. Locks: m 0, r 1, n 2. Conditions: c 0, d 1. Futures: f 0, g 1. Threads: t 0, u 1, w 2.

func TestExpressionsWithoutLocals(t *testing.T) {
	wantRows(t, "", []row{
		{"x = 0;", 1, "const; store; @-1 end"},
		{"x = 7;", 1, "const 0 0 0 7; store; @-1 end"},
		{"x = 9223372036854775807;", 1, "const 0 0 0 9223372036854775807; store; @-1 end"},
		{"x = x;", 1, "load; store; @-1 end"},
		{"x = v;", 1, "load 0 4; store; @-1 end"},
		{"v = x;", 1, "load; store 4; @-1 end"},
		{"x = a[2];", 1, "const 0 0 0 2; loadat 0 1 0 3; store; @-1 end"},
		{"x = b[v];", 1, "load 0 4; loadat 0 5 0 1; store; @-1 end"},
		{"x = a[a[b[0]]];", 1, "const; loadat 0 5 0 1; loadat 0 1 0 3; loadat 0 1 0 3; store; @-1 end"},
		{"x = -1;", 1, "const 0 0 0 1; unary 0 0 0 4; store; @-1 end"},
		{"x = !v;", 1, "load 0 4; unary 0 0 0 5; store; @-1 end"},
		{"x = !-!x;", 1, "load; unary 0 0 0 5; unary 0 0 0 4; unary 0 0 0 5; store; @-1 end"},
		{"x = x + 1;", 2, "load; const 1 0 0 1; binary 0 0 1 6; store; @-1 end"},
		{"x = x - v * 2;", 3, "load; load 1 4; const 2 0 0 2; binary 1 1 2 8; binary 0 0 1 7; store; @-1 end"},
		{"x = x - v - 2;", 2, "load; load 1 4; binary 0 0 1 7; const 1 0 0 2; binary 0 0 1 7; store; @-1 end"},
		{"x = (x + v) * (v - 3);", 3, "load; load 1 4; binary 0 0 1 6; load 1 4; const 2 0 0 3; binary 1 1 2 7; binary 0 0 1 8; store; @-1 end"},
		{"x = 1 + a[x + 2];", 3, "const 0 0 0 1; load 1; const 2 0 0 2; binary 1 1 2 6; loadat 1 1 1 3; binary 0 0 1 6; store; @-1 end"},
		{"x = 1 + (2 + (3 + (4 + (5 + 6))));", 6, "const 0 0 0 1; const 1 0 0 2; const 2 0 0 3; const 3 0 0 4; const 4 0 0 5; const 5 0 0 6; binary 4 4 5 6; binary 3 3 4 6; binary 2 2 3 6; binary 1 1 2 6; binary 0 0 1 6; store; @-1 end"},
		{"x = x == 1 || v < 2 && 3;", 3, "load; const 1 0 0 1; binary 0 0 1 11; load 1 4; const 2 0 0 2; binary 1 1 2 13; const 2 0 0 3; binary 1 1 2 17; binary 0 0 1 18; store; @-1 end"},
	})
	for i, sign := range []string{"+", "-", "*", "/", "%", "==", "!=", "<", "<=", ">", ">=", "&&", "||"} {
		wantRows(t, "", []row{{"x = v " + sign + " 2;", 2, "load 0 4; const 1 0 0 2; binary 0 0 1 " + strconv.Itoa(api.EAdd+i) + "; store; @-1 end"}})
	}
}

func TestExpressionsWithLocals(t *testing.T) {
	wantRows(t, "k, l", []row{
		{"x = k;", 3, "move 2; store 0 2; @-1 end"},
		{"x = l;", 3, "move 2 1; store 0 2; @-1 end"},
		{"x = x;", 3, "load 2; store 0 2; @-1 end"},
		{"x = k - l;", 4, "move 2; move 3 1; binary 2 2 3 7; store 0 2; @-1 end"},
		{"x = -l;", 3, "move 2 1; unary 2 2 0 4; store 0 2; @-1 end"},
		{"x = a[l] % v;", 4, "move 2 1; loadat 2 1 2 3; load 3 4; binary 2 2 3 10; store 0 2; @-1 end"},
		{"k = 1 + (k + (l + x));", 6, "const 2 0 0 1; move 3; move 4 1; load 5; binary 4 4 5 6; binary 3 3 4 6; binary 2 2 3 6; move 0 2; @-1 end"},
	})
	wantRows(t, "k1, k2, k3, k4", []row{
		{"x = k4;", 5, "move 4 3; store 0 4; @-1 end"},
		{"k4 = k3 + k1;", 6, "move 4 2; move 5; binary 4 4 5 6; move 3 4; @-1 end"},
		{"a[1 + (2 + (3 + (4 + (5 + 6))))] = 1 + (2 + (3 + (4 + (5 + k2))));", 11, "const 4 0 0 1; const 5 0 0 2; const 6 0 0 3; const 7 0 0 4; const 8 0 0 5; const 9 0 0 6; binary 8 8 9 6; binary 7 7 8 6; binary 6 6 7 6; binary 5 5 6 6; binary 4 4 5 6; const 5 0 0 1; const 6 0 0 2; const 7 0 0 3; const 8 0 0 4; const 9 0 0 5; move 10 1; binary 9 9 10 6; binary 8 8 9 6; binary 7 7 8 6; binary 6 6 7 6; binary 5 5 6 6; storeat 1 5 4 3; @-1 end"},
	})
}

func TestAssignments(t *testing.T) {
	wantRows(t, "", []row{
		{"v = 1; x = 2;", 1, "const 0 0 0 1; store 4; @1 const 0 0 0 2; store; @-1 end"},
		{"a[2] = 3;", 2, "const 0 0 0 2; const 1 0 0 3; storeat 1 1 0 3; @-1 end"},
		{"b[0] = x;", 2, "const; load 1; storeat 5 1 0 1; @-1 end"},
		{"a[a[x]] = a[v] + 1;", 3, "load; loadat 0 1 0 3; load 1 4; loadat 1 1 1 3; const 2 0 0 1; binary 1 1 2 6; storeat 1 1 0 3; @-1 end"},
		{"a[x + v] = 1;", 2, "load; load 1 4; binary 0 0 1 6; const 1 0 0 1; storeat 1 1 0 3; @-1 end"},
	})
	wantRows(t, "k, l", []row{
		{"k = 1;", 3, "const 2 0 0 1; move 0 2; @-1 end"},
		{"l = k;", 3, "move 2; move 1 2; @-1 end"},
		{"l = l;", 3, "move 2 1; move 1 2; @-1 end"},
		{"k = v;", 3, "load 2 4; move 0 2; @-1 end"},
		{"a[l] = k;", 4, "move 2 1; move 3; storeat 1 3 2 3; @-1 end"},
		{"b[k] = l + 1;", 5, "move 2; move 3 1; const 4 0 0 1; binary 3 3 4 6; storeat 5 3 2 1; @-1 end"},
		{"v = k;", 3, "move 2; store 4 2; @-1 end"},
	})
}

func TestConditionalStatements(t *testing.T) {
	wantRows(t, "", []row{
		{"if x { }", 1, "load; branch 0 2; @-1 end"},
		{"if x { } else { }", 1, "load; branch 0 2; @-1 end"},
		{"if x { v = 1; }", 1, "load; branch 0 4; @1 const 0 0 0 1; store 4; @-1 end"},
		{"if x { v = 1; } else { }", 1, "load; branch 0 4; @1 const 0 0 0 1; store 4; @-1 end"},
		{"if x { } else { v = 1; }", 1, "load; branch 0 3; jump 5; @1 const 0 0 0 1; store 4; @-1 end"},
		{"if x { v = 1; } else { v = 2; } v = 3;", 1, "load; branch 0 5; @1 const 0 0 0 1; store 4; @0 jump 7; @2 const 0 0 0 2; store 4; @3 const 0 0 0 3; store 4; @-1 end"},
		{"v = 1; if x + 1 { v = 2; v = 3; } else { v = 4; }", 2, "const 0 0 0 1; store 4; @1 load; const 1 0 0 1; binary 0 0 1 6; branch 0 11; @2 const 0 0 0 2; store 4; @3 const 0 0 0 3; store 4; @1 jump 13; @4 const 0 0 0 4; store 4; @-1 end"},
		{"if 1 { if 2 { } else { x = 1; } } else { if 3 { x = 2; } }", 1, "const 0 0 0 1; branch 0 8; @1 const 0 0 0 2; branch 0 5; jump 7; @2 const 0 0 0 1; store; @0 jump 12; @3 const 0 0 0 3; branch 0 12; @4 const 0 0 0 2; store; @-1 end"},
	})
	wantRows(t, "k, l", []row{
		{"if l { }", 3, "move 2 1; branch 2 2; @-1 end"},
		{"if k { l = 1; } else { l = 2; }", 3, "move 2; branch 2 5; @1 const 2 0 0 1; move 1 2; @0 jump 7; @2 const 2 0 0 2; move 1 2; @-1 end"},
	})
}

func TestLoops(t *testing.T) {
	wantRows(t, "", []row{
		{"while 1 { }", 1, "const 0 0 0 1; branch 0 3; jump; @-1 end"},
		{"while x { v = 1; }", 1, "load; branch 0 5; @1 const 0 0 0 1; store 4; @0 jump; @-1 end"},
		{"v = 1; while x { v = 2; } v = 3;", 1, "const 0 0 0 1; store 4; @1 load; branch 0 7; @2 const 0 0 0 2; store 4; @1 jump 2; @3 const 0 0 0 3; store 4; @-1 end"},
		{"while x < 3 { while v { } }", 2, "load; const 1 0 0 3; binary 0 0 1 13; branch 0 8; @1 load 0 4; branch 0 7; jump 4; @0 jump; @-1 end"},
		{"while x { if v { } else { while 1 { } } x = 2; }", 1, "load; branch 0 11; @1 load 0 4; branch 0 5; jump 8; @2 const 0 0 0 1; branch 0 8; jump 5; @3 const 0 0 0 2; store; @0 jump; @-1 end"},
	})
	wantRows(t, "k, l", []row{{"l = 1; while l { k = l; }", 3, "const 2 0 0 1; move 1 2; @1 move 2 1; branch 2 7; @2 move 2 1; move 0 2; @1 jump 2; @-1 end"}})
}

func TestStatementsWithBodies(t *testing.T) {
	wantRows(t, "", []row{
		{"lock m { }", 0, "acquire; release; @-1 end"},
		{"lock n { }", 0, "acquire 2; release 2; @-1 end"},
		{"lock n { x = 1; }", 1, "acquire 2; @1 const 0 0 0 1; store; @0 release 2; @-1 end"},
		{"read r { }", 0, "readacquire 1; readrelease 1; @-1 end"},
		{"read r { x = 1; x = 2; }", 1, "readacquire 1; @1 const 0 0 0 1; store; @2 const 0 0 0 2; store; @0 readrelease 1; @-1 end"},
		{"write r { }", 0, "writeacquire 1; writerelease 1; @-1 end"},
		{"write r { x = 1; }", 1, "writeacquire 1; @1 const 0 0 0 1; store; @0 writerelease 1; @-1 end"},
		{"transaction { }", 0, "txbegin; txend; @-1 end"},
		{"transaction { x = 1; }", 1, "txbegin; @1 const 0 0 0 1; store; @0 txend; @-1 end"},
		{"atomic { }", 0, "atomicbegin; atomicend; @-1 end"},
		{"atomic { x = 1; }", 1, "atomicbegin; @1 const 0 0 0 1; store; @0 atomicend; @-1 end"},
		{"lock m { lock n { read r { atomic { transaction { } } } } } lock m { }", 0, "acquire; @1 acquire 2; @2 readacquire 1; @3 atomicbegin; @4 txbegin; txend; @3 atomicend; @2 readrelease 1; @1 release 2; @0 release; @5 acquire; release; @-1 end"},
	})
	wantRows(t, "k, l", []row{{"lock n { } atomic { } transaction { } write r { }", 2, "acquire 2; release 2; @1 atomicbegin; atomicend; @2 txbegin; txend; @3 writeacquire 1; writerelease 1; @-1 end"}})
}

func TestActions(t *testing.T) {
	wantRows(t, "", []row{
		{"lock m { wait c; notify c; notifyall c; }", 0, "acquire; @1 wait; @2 notify; @3 notifyall; @0 release; @-1 end"},
		{"lock n { wait d; notify d; notifyall d; }", 0, "acquire 2; @1 wait 1; @2 notify 1; @3 notifyall 1; @0 release 2; @-1 end"},
		{"spawn u; spawn w; join w; join u;", 0, "spawn 1; @1 spawn 2; @2 join 2; @3 join 1; @-1 end"},
		{"set f 1;", 1, "const 0 0 0 1; set; @-1 end"},
		{"set g x + v;", 2, "load; load 1 4; binary 0 0 1 6; set 1; @-1 end"},
	})
	wantRows(t, "k, l", []row{
		{"get k f;", 2, "get; @-1 end"},
		{"get l f;", 2, "get 1; @-1 end"},
		{"get k g;", 2, "get 0 1; @-1 end"},
		{"get l g;", 2, "get 1 1; @-1 end"},
		{"set g l;", 3, "move 2 1; set 1 2; @-1 end"},
		{"set f k * l; get l f;", 4, "move 2; move 3 1; binary 2 2 3 8; set 0 2; @1 get 1; @-1 end"},
		{"spawn w; join u;", 2, "spawn 2; @1 join 1; @-1 end"},
	})
}

func TestEmptyBodies(t *testing.T) {
	wantRows(t, "", []row{{"", 0, "@-1 end"}})
	wantRows(t, "k", []row{{"", 1, "@-1 end"}})
	wantRows(t, "k1, k2, k3, k4", []row{{"", 4, "@-1 end"}})
}

// A statement of each kind stands directly inside each statement that has a body.
func TestStatementsInsideOneAnother(t *testing.T) {
	around := map[string][2]string{
		"if x { _ }":                {"load 2; branch 2 E; ", ""},
		"if x { } else { _ }":       {"load 2; branch 2 3; jump E; ", ""},
		"while x { _ }":             {"load 2; branch 2 E; ", "@0 jump; "},
		"lock n { _ }":              {"acquire 2; ", "@0 release 2; "},
		"read r { _ }":              {"readacquire 1; ", "@0 readrelease 1; "},
		"write r { _ }":             {"writeacquire 1; ", "@0 writerelease 1; "},
		"atomic { _ }":              {"atomicbegin; ", "@0 atomicend; "},
		"transaction { _ }":         {"txbegin; ", "@0 txend; "},
		"lock m { x = 1; _ x = 2;}": {"acquire; @1 const 2 0 0 1; store 0 2; ", "@3 const 2 0 0 2; store 0 2; @0 release; "},
	}
	inside := map[string]string{"k = 1;": "const 2 0 0 1; move 0 2; ", "a[k] = l;": "move 2; move 3 1; storeat 1 3 2 3; ", "v = b[0];": "const 2; loadat 2 5 2 1; store 4 2; "}
	for outer, texts := range around {
		for inner, instrs := range inside {
			site := "@1 "
			if strings.Contains(outer, "x = 1") {
				site = "@2 "
			}
			want := texts[0] + site + instrs + texts[1]
			// E is the instruction behind the statement.
			want = strings.ReplaceAll(want, "E;", strconv.Itoa(strings.Count(want, ";"))+";") + "@-1 end"
			regs := 3
			if strings.HasPrefix(inner, "a") {
				regs = 4
			}
			wantRows(t, "k, l", []row{{strings.ReplaceAll(outer, "_", inner), regs, want}})
		}
	}
}

func TestSitesOfLaterThreads(t *testing.T) {
	c := code(t, everything+"thread t() { if x { x = 1; } lock m { } } thread u(k) { } thread w(k) { while k { k = 2; } x = 3; } thread y() { x = 4; }")
	for i, want := range []string{
		"load; branch 0 4; @1 const 0 0 0 1; store; @2 acquire; release; @-1 end",
		"@-1 end",
		"@3 move 1; branch 1 5; @4 const 1 0 0 2; move 0 1; @3 jump; @5 const 1 0 0 3; store 0 1; @-1 end",
		"@6 const 0 0 0 4; store; @-1 end",
	} {
		if got := listing(c.Threads[i]); got != want {
			t.Errorf("thread %d: %s; want %s", i, got, want)
		}
	}
	for i, want := range []int{1, 1, 2, 1} {
		if c.Threads[i].Regs != want {
			t.Errorf("thread %d: %d registers; want %d", i, c.Threads[i].Regs, want)
		}
	}
}

// The same name denotes different locals in different threads.
func TestLocalsOfEachThread(t *testing.T) {
	c := code(t, "var x; future f; thread t(k, l) { x = l; get k f; } thread u(l, k) { x = l; get k f; }")
	for i, want := range []string{"move 2 1; store 0 2; @1 get; @-1 end", "@2 move 2; store 0 2; @3 get 1; @-1 end"} {
		if got := listing(c.Threads[i]); got != want {
			t.Errorf("thread %d: %s; want %s", i, got, want)
		}
	}
}

func TestErrorsOfPrograms(t *testing.T) {
	for s, p := range refused(t) {
		err, line := check.Program(p)
		c, gotErr, gotLine := Program(p)
		if err == api.OK || gotErr != err || gotLine != line {
			t.Errorf("%s: error %d, line %d; want error %d, line %d", s, gotErr, gotLine, err, line)
		}
		if !sameWorld(c.World, api.World{}) || len(c.Threads) != 0 {
			t.Errorf("%s: code with error %d: %+v", s, gotErr, c)
		}
	}
	_, err, line := Program(program(t, "var x;\nthread t() {\nx = 1;\n\nx = y;\nx = z[1];\n}"))
	if err != api.ErrUndefined || line != 5 {
		t.Errorf("error %d, line %d; want error %d, line 5", err, line, api.ErrUndefined)
	}
	_, err, line = Program(program(t, "mutex m;\nthread t() {\nlock m {\nlock m { } } }"))
	if err != api.ErrNesting || line != 4 {
		t.Errorf("error %d, line %d; want error %d, line 4", err, line, api.ErrNesting)
	}
}

func TestCodeOfAFullProgram(t *testing.T) {
	p := full(t)
	c, err, line := Program(p)
	if err != api.OK || line != 0 || !Valid(c) || len(c.Threads) != api.MaxThreads {
		t.Fatalf("error %d, line %d, %d threads", err, line, len(c.Threads))
	}
	for i, x := range c.Threads {
		k := len(p.Threads[i].Locals)
		if x.Regs != k+1 || len(x.Instrs) != 2*api.MaxStmts/api.MaxThreads+1 {
			t.Errorf("thread %d: %d registers, %d instructions", i, x.Regs, len(x.Instrs))
		}
		for n, in := range x.Instrs[:30] {
			want := api.Instr{Op: api.IConst, A: k, N: 1, Site: 15*i + n/2}
			if n%2 == 1 {
				want = api.Instr{Op: api.IStore, A: 11, B: k, Site: 15*i + n/2}
			}
			if in != want {
				t.Errorf("thread %d, instruction %d: %+v; want %+v", i, n, in, want)
			}
		}
	}
}

// The examples of the chapter.
func TestExamples(t *testing.T) {
	c := code(t, "var x; thread t() { x = x + 1; }").Threads[0]
	want := []api.Instr{{Op: api.ILoad}, {Op: api.IConst, A: 1, N: 1}, {Op: api.IBinary, C: 1, N: api.EAdd}, {Op: api.IStore}, {Op: api.IEnd, Site: -1}}
	wantInstrs(t, c, 2, want)
	c = code(t, "thread t() { while 1 { } }").Threads[0]
	wantInstrs(t, c, 1, []api.Instr{{Op: api.IConst, N: 1}, {Op: api.IBranch, B: 3}, {Op: api.IJump}, {Op: api.IEnd, Site: -1}})
	if got := Text(api.Instr{Op: api.IEnd}); got != "end 0 0 0 0" {
		t.Errorf("Text = %q", got)
	}
}

func wantInstrs(t *testing.T, c api.ThreadCode, regs int, want []api.Instr) {
	t.Helper()
	if c.Regs != regs || len(c.Instrs) != len(want) {
		t.Fatalf("%+v; want %d registers, %+v", c, regs, want)
	}
	for n, i := range c.Instrs {
		if i != want[n] {
			t.Errorf("instruction %d: %+v; want %+v", n, i, want[n])
		}
	}
}
