package compile

import (
	"slices"
	"strconv"
	"testing"

	"interleave/api"
	"interleave/check"
	"interleave/parse"
)

// P6.1

func program(t *testing.T, s string) api.Program {
	t.Helper()
	p, err, line := parse.Parse(s)
	if err != api.OK {
		t.Fatalf("parse.Parse(%q): error %d, line %d", s, err, line)
	}
	return p
}

func sameWorld(v, w api.World) bool {
	return slices.Equal(v.Cells, w.Cells) && slices.Equal(v.Locks, w.Locks) && slices.Equal(v.Conds, w.Conds) &&
		slices.Equal(v.Futures, w.Futures) && slices.Equal(v.Threads, w.Threads) && slices.Equal(v.Sites, w.Sites)
}

func wantWorld(t *testing.T, p api.Program, want api.World) {
	t.Helper()
	if got := World(p); !sameWorld(got, want) {
		t.Errorf("World = %+v; want %+v", got, want)
	}
}

func TestObjectsOfEachKind(t *testing.T) {
	for s, want := range map[string]api.World{
		"":                       {},
		"var x;":                 {Cells: []api.Cell{{Name: "x"}}},
		"var x = 5;":             {Cells: []api.Cell{{Name: "x", Init: 5}}},
		"var x = -5;":            {Cells: []api.Cell{{Name: "x", Init: -5}}},
		"volatile v;":            {Cells: []api.Cell{{Name: "v", Volatile: true}}},
		"volatile v = -7;":       {Cells: []api.Cell{{Name: "v", Volatile: true, Init: -7}}},
		"var a[1];":              {Cells: []api.Cell{{Name: "a", Size: 1}}},
		"var a[2] = 3;":          {Cells: []api.Cell{{Name: "a", Size: 2, Init: 3}, {Name: "a", Index: 1, Size: 2, Init: 3}}},
		"var a[4] = -1; var b;":  {Cells: []api.Cell{{Name: "a", Size: 4, Init: -1}, {Name: "a", Index: 1, Size: 4, Init: -1}, {Name: "a", Index: 2, Size: 4, Init: -1}, {Name: "a", Index: 3, Size: 4, Init: -1}, {Name: "b"}}},
		"mutex m;":               {Locks: []api.Lock{{Name: "m"}}},
		"rwlock r;":              {Locks: []api.Lock{{Name: "r", RW: true}}},
		"mutex m; cond c m;":     {Locks: []api.Lock{{Name: "m"}}, Conds: []api.Cond{{Name: "c"}}},
		"future f;":              {Futures: []string{"f"}},
		"future g; future f;":    {Futures: []string{"g", "f"}},
		"var B; var A; var a_1;": {Cells: []api.Cell{{Name: "B"}, {Name: "A"}, {Name: "a_1"}}},
		"rwlock r; mutex m; rwlock q; mutex n; cond d n; cond c m;": {
			Locks: []api.Lock{{Name: "r", RW: true}, {Name: "m"}, {Name: "q", RW: true}, {Name: "n"}},
			Conds: []api.Cond{{Name: "d", Mutex: 3}, {Name: "c", Mutex: 1}},
		},
		// A condition's mutex is a number among the locks declared so far and later.
		"var x = 9223372036854775807; future f; mutex z; volatile y = -9223372036854775807; var b[3]; mutex a; cond c a; rwlock r; cond d a; future e;": {
			Cells:   []api.Cell{{Name: "x", Init: 1<<63 - 1}, {Name: "y", Volatile: true, Init: -(1<<63 - 1)}, {Name: "b", Size: 3}, {Name: "b", Index: 1, Size: 3}, {Name: "b", Index: 2, Size: 3}},
			Locks:   []api.Lock{{Name: "z"}, {Name: "a"}, {Name: "r", RW: true}},
			Conds:   []api.Cond{{Name: "c", Mutex: 1}, {Name: "d", Mutex: 1}},
			Futures: []string{"f", "e"},
		},
	} {
		want.Threads = []string{"t"}
		wantWorld(t, program(t, s+"thread t() { }"), want)
	}
}

func TestThreadsInOrder(t *testing.T) {
	wantWorld(t, program(t, "thread t() { }"), api.World{Threads: []string{"t"}})
	wantWorld(t, program(t, "thread z(a) { } thread b(a, c) { } thread y() { } thread a1(a) { }"), api.World{Threads: []string{"z", "b", "y", "a1"}})
}

func TestSitesInPreorder(t *testing.T) {
	site := func(thread, stmt, line int) api.Site { return api.Site{Thread: thread, Stmt: stmt, Line: line} }
	for s, want := range map[string][]api.Site{
		"t() { }":                              nil,
		"t() { x = 1; }":                       {site(0, 0, 1)},
		"t() { x = 1;\nx\n=\n2; x = 3;\n}":     {site(0, 0, 1), site(0, 1, 2), site(0, 2, 4)},
		"t() { while x { x = 1;\n} x = 2; }":   {site(0, 0, 1), site(0, 1, 1), site(0, 2, 2)},
		"t() { if x { } }":                     {site(0, 0, 1)},
		"t() { if x { x = 1; } else {\n } }":   {site(0, 0, 1), site(0, 1, 1)},
		"t() { if x {\n } else {\n x = 1; } }": {site(0, 0, 1), site(0, 1, 3)},
		"t() { if x {\n x = 1;\n x = 2; }\n else {\n x = 3;\n x = 4; }\n x = 5; }": {site(0, 0, 1), site(0, 1, 2), site(0, 2, 3), site(0, 3, 5), site(0, 4, 6), site(0, 5, 7)},
		"t() { if x { if x {\n x = 1; } else {\n x = 2; } x = 3; } else { atomic {\n transaction {\n x = 4; } x = 5; } } x = 6; }": {
			site(0, 0, 1), site(0, 1, 1), site(0, 2, 2), site(0, 3, 3), site(0, 4, 3), site(0, 5, 3), site(0, 6, 4), site(0, 7, 5), site(0, 8, 5), site(0, 9, 5),
		},
		"t() { x = 1; }\nthread u() { }\nthread w() { x = 2;\n x = 3; }\nthread y() { while x { x = 4; } }": {
			site(0, 0, 1), site(2, 0, 3), site(2, 1, 4), site(3, 0, 5), site(3, 1, 5),
		},
		"t() { }\nthread u() { x = 1; }": {site(1, 0, 2)},
		"t(l) { lock m { wait c; notify c; notifyall c; }\n read r { } write r { }\n atomic { } transaction { }\n spawn u; join u;\n set f 1; get l f; }\nthread u() { }": {
			site(0, 0, 1), site(0, 1, 1), site(0, 2, 1), site(0, 3, 1), site(0, 4, 2), site(0, 5, 2), site(0, 6, 3), site(0, 7, 3), site(0, 8, 4), site(0, 9, 4), site(0, 10, 5), site(0, 11, 5),
		},
	} {
		p := program(t, "var x; mutex m; rwlock r; cond c m; future f; thread "+s)
		if got := World(p).Sites; !slices.Equal(got, want) {
			t.Errorf("%s: sites %v; want %v", s, got, want)
		}
	}
}

func TestLinesOfSitesMayBeAnyNumbers(t *testing.T) {
	p := program(t, "var x; thread t() { x = 1; if x { x = 2; } else { x = 3; } }")
	body := p.Threads[0].Body
	body[0].Line, body[1].Line, body[1].Body[0].Line, body[1].Else[0].Line = 7, -1<<63, 0, -3
	wantWorld(t, p, api.World{Cells: []api.Cell{{Name: "x"}}, Threads: []string{"t"}, Sites: []api.Site{{Line: 7}, {Stmt: 1, Line: -1 << 63}, {Stmt: 2}, {Stmt: 3, Line: -3}}})
}

// full returns a program that reaches all limits.
func full(t *testing.T) api.Program {
	p := program(t, "var a[4]; var b[4] = 1; var d[3] = 2; volatile v; mutex m; rwlock r; mutex n; rwlock q; cond c m; cond e n; future f; future g; thread t(k1, k2, k3, k4) { } thread u() { } thread w() { } thread y() { }")
	x := api.Stmt{Op: api.SAssign, Name: "v", Expr: api.Expr{Op: api.ENum, N: 1}}
	for i := range p.Threads {
		for n := range api.MaxStmts / api.MaxThreads {
			x.Line = 100*i + n
			p.Threads[i].Body = append(p.Threads[i].Body, x)
		}
	}
	return p
}

func TestObjectsOfAFullProgram(t *testing.T) {
	w := World(full(t))
	if len(w.Cells) != api.MaxCells || len(w.Locks) != api.MaxLocks || len(w.Conds) != api.MaxConds || len(w.Futures) != api.MaxFutures || len(w.Threads) != api.MaxThreads || len(w.Sites) != api.MaxStmts {
		t.Errorf("World = %+v", w)
	}
	for n, s := range w.Sites {
		if s != (api.Site{Thread: n / 15, Stmt: n % 15, Line: n/15*100 + n%15}) {
			t.Errorf("site %d: %+v", n, s)
		}
	}
	if !ValidWorld(w) {
		t.Error("ValidWorld = false")
	}
}

// refused returns programs with errors of each kind, with the lines of the errors.
func refused(t *testing.T) map[string]api.Program {
	const decls = "var x; var a[2]; mutex m; rwlock r; cond c m; future f;\n"
	texts := []string{
		"var x; thread t() { } thread t() { }", "var x; mutex x; thread t() { }", "thread t(l, l) { }", "var a[5]; thread t() { }", "cond c m; mutex m; thread t() { }", "var x; cond c x; thread t() { }",
		"thread a() { } thread b() { } thread c() { } thread d() { } thread e() { }", "thread t(a, b, c, d, e) { }",
	}
	for _, body := range []string{
		"y = 1;", "m = 1;", "x[0] = 1;", "a = 1;", "x = y;", "a[y] = 1;", "x = a;", "x = x[1];", "if f { }", "lock r { }", "lock m { lock m { } }", "wait c;", "transaction { lock m { } }", "atomic { atomic { } }",
		"spawn t;", "spawn u; spawn u;", "while 1 { spawn u; }", "join t;", "set f 1; set f 2;", "set x 1;", "get x f;", "get l x;", "read m { }", "if 1 { if 1 { if 1 { if 1 { if 1 { if 1 { if 1 { } } } } } } }", "x = !!!!!!1;",
	} {
		texts = append(texts, decls+"thread t(l) {\n"+body+" }\nthread u() { }")
	}
	all := map[string]api.Program{}
	for _, s := range texts {
		all[s] = program(t, s)
	}
	good := program(t, decls+"thread t(l) { x = 1; } thread u() { }")
	spoil := map[string]func(p *api.Program){
		"no threads":          func(p *api.Program) { p.Threads = nil },
		"kind of declaration": func(p *api.Program) { p.Decls[0].Kind = 7 },
		"size":                func(p *api.Program) { p.Decls[1].Size = -1 },
		"keyword":             func(p *api.Program) { p.Decls[0].Name = "if" },
		"kind of statement":   func(p *api.Program) { p.Threads[0].Body = []api.Stmt{{}} },
		"two indexes":         func(p *api.Program) { p.Threads[0].Body[0].Index = make([]api.Expr, 2) },
		"operator":            func(p *api.Program) { p.Threads[0].Body[0].Expr.Op = 19 },
		"operands":            func(p *api.Program) { p.Threads[0].Body[0].Expr.Op = api.EAdd },
		"negative number":     func(p *api.Program) { p.Threads[0].Body[0].Expr.N = -1 },
		"too many statements": func(p *api.Program) { p.Threads[0].Body = slices.Repeat(p.Threads[0].Body, api.MaxStmts+1) },
	}
	for s, change := range spoil {
		p := api.Program{Decls: slices.Clone(good.Decls), Threads: slices.Clone(good.Threads)}
		p.Threads[0].Body = slices.Clone(p.Threads[0].Body)
		change(&p)
		all[s] = p
	}
	all["zero"] = api.Program{}
	return all
}

func TestProgramsWithErrorsHaveNoObjects(t *testing.T) {
	told := map[api.Errno]int{}
	for s, p := range refused(t) {
		err, _ := check.Program(p)
		if err == api.OK {
			t.Errorf("%s: no error", s)
		}
		told[err]++
		wantWorld(t, p, api.World{})
	}
	for _, err := range []api.Errno{api.ErrTooLarge, api.ErrSyntax, api.ErrDuplicate, api.ErrUndefined, api.ErrKind, api.ErrNesting, api.ErrOnce} {
		if told[err] < 2 {
			t.Errorf("%d programs with error %d", told[err], err)
		}
	}
}

func TestNumbersOfCells(t *testing.T) {
	for n := 1; n <= api.MaxCells; n++ {
		s, want := "", api.World{Threads: []string{"t"}}
		for i := range n {
			s += "var x" + strconv.Itoa(i) + " = " + strconv.Itoa(i) + ";"
			want.Cells = append(want.Cells, api.Cell{Name: "x" + strconv.Itoa(i), Init: int64(i)})
		}
		wantWorld(t, program(t, s+"thread t() { }"), want)
	}
}
