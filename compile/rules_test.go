package compile

import (
	"fmt"
	"math"
	"slices"
	"strconv"
	"strings"
	"sync"
	"testing"

	"interleave/api"
)

// P1

func wantRefused(t *testing.T, p api.Program, want api.Errno) {
	t.Helper()
	wantWorld(t, p, api.World{})
	if c, err, _ := Program(p); err != want || !sameCode(c, api.Code{}) {
		t.Errorf("error %d with %d threads; want error %d", err, len(c.Threads), want)
	}
}

// withBody returns a program with a body.
func withBody(body ...api.Stmt) api.Program {
	return api.Program{Decls: []api.Decl{{Kind: api.DVar, Name: "x"}}, Threads: []api.Thread{{Name: "t", Body: body}}}
}

func TestDeepAndSharedPrograms(t *testing.T) {
	deep, shared := api.Expr{Op: api.ENum}, api.Expr{Op: api.ENum}
	s, all := api.Stmt{Op: api.SAtomic}, api.Stmt{Op: api.STransaction}
	for range 1 << 16 {
		deep = api.Expr{Op: api.ENot, L: []api.Expr{deep}}
		s = api.Stmt{Op: api.SIf, Expr: api.Expr{Op: api.ENum}, Else: []api.Stmt{s}}
	}
	// Nobody can visit the nodes of these values one by one.
	for range 200 {
		shared = api.Expr{Op: api.EAdd, L: []api.Expr{shared, shared}}
		all = api.Stmt{Op: api.SIf, Expr: shared, Body: []api.Stmt{all, all}, Else: []api.Stmt{all}}
	}
	for _, body := range [][]api.Stmt{
		{{Op: api.SAssign, Name: "x", Expr: deep}}, {{Op: api.SAssign, Name: "x", Expr: shared}}, {s}, {all},
		slices.Repeat([]api.Stmt{{Op: api.STransaction}}, 1<<18),
	} {
		wantRefused(t, withBody(body...), api.ErrTooLarge)
	}
	loop, body := make([]api.Expr, 1), make([]api.Stmt, 1)
	loop[0] = api.Expr{Op: api.ENeg, L: loop}
	body[0] = api.Stmt{Op: api.SAtomic, Body: body}
	wantRefused(t, withBody(api.Stmt{Op: api.SAssign, Name: "x", Expr: loop[0]}), api.ErrSyntax)
	wantRefused(t, withBody(body...), api.ErrSyntax)
}

// One slice at several places is like several slices.
func TestProgramsThatShareParts(t *testing.T) {
	two := []api.Expr{{Op: api.ENum, N: 1}, {Op: api.EName, Name: "x"}}
	e := api.Expr{Op: api.EAdd, L: two}
	body := []api.Stmt{{Op: api.SAssign, Name: "x", Expr: api.Expr{Op: api.EMul, L: []api.Expr{e, e}}, Line: 3}}
	p := withBody(api.Stmt{Op: api.SIf, Expr: e, Body: body, Else: body}, body[0])
	p.Threads = append(p.Threads, api.Thread{Name: "u", Body: body})
	c, err, _ := Program(p)
	if err != api.OK || !sameCode(c, specCode(p)) || !Valid(c) {
		t.Errorf("error %d, code %+v", err, c)
	}
}

func TestLongWorlds(t *testing.T) {
	const n = 1 << 18
	for i, w := range []api.World{worldOf(n, 0, 0, 0, 1, 0), worldOf(0, n, 0, 0, 1, 0), worldOf(0, 1, n, 0, 1, 0), worldOf(0, 0, 0, n, 1, 0), worldOf(0, 0, 0, 0, n, 0), worldOf(0, 0, 0, 0, 1, n)} {
		if ValidWorld(w) || Valid(api.Code{World: w}) {
			t.Errorf("list %d is not too long", i)
		}
	}
	w := worldOf(1, 0, 0, 0, 1, 0)
	w.Cells[0].Name = strings.Repeat("a", n)
	if ValidWorld(w) {
		t.Error("a long name")
	}
}

func TestLongCodes(t *testing.T) {
	const n = 1 << 20
	instrs := make([]api.Instr, n)
	c := small(instrs...)
	l := c.Threads[0].Instrs
	for what, jump := range map[string]func(at int) int{
		"forwards":          func(at int) int { return at + 1 },
		"to the end":        func(at int) int { return n },
		"backwards":         func(at int) int { return (at + n) % (n + 1) },
		"in turns":          func(at int) int { return min(at^1+2, n) },
		"in a cycle":        func(at int) int { return (at + 1) % n },
		"backwards, cyclic": func(at int) int { return (at + n - 1) % n },
		"to the first one":  func(at int) int { return 0 },
		"to itself at last": func(at int) int { return min(at+1, n-1) },
	} {
		for at := range n {
			l[at] = api.Instr{Op: api.IJump, A: jump(at)}
		}
		want := what == "forwards" || what == "to the end" || what == "backwards" || what == "in turns"
		if got := Valid(c); got != want {
			t.Errorf("jumps %s: Valid = %v; want %v", what, got, want)
		}
	}
	for at := range n {
		l[at] = api.Instr{Op: api.IConst}
	}
	if !Valid(c) {
		t.Error("constants: Valid = false")
	}
	c.Threads = slices.Repeat(c.Threads, n)
	if Valid(c) {
		t.Error("many threads: Valid = true")
	}
}

func TestAnyValues(t *testing.T) {
	numbers := append(slices.Clone(far), 0, 1, 2, 3, 4, 5, 6, 27, 28, 29)
	texts := []string{"", "x", "if", "\xff\n", "longernames13"}
	for _, n := range numbers {
		i := int(n)
		for _, s := range texts {
			w := api.World{Cells: []api.Cell{{Name: s, Index: i, Size: i, Init: n}, {Size: i}}, Locks: []api.Lock{{Name: s}}, Conds: []api.Cond{{Name: s, Mutex: i}}, Futures: []string{s}, Threads: []string{s, s}, Sites: slices.Repeat([]api.Site{{Thread: i, Stmt: i, Line: i}}, 2)}
			in := api.Instr{Op: i, A: i, B: i, C: i, N: n, Site: i}
			c := api.Code{World: w, Threads: []api.ThreadCode{{Regs: i, Instrs: []api.Instr{in, in}}, {}}}
			if ValidWorld(w) || Valid(c) {
				t.Errorf("number %d, %q: valid", n, s)
			}
			wantText(t, in, strings.Fields(Text(in))[0]+strings.Repeat(" "+strconv.FormatInt(n, 10), 4))
			p := api.Program{
				Decls:   []api.Decl{{Kind: i, Name: s, Size: i, Init: n, On: s}},
				Threads: []api.Thread{{Name: s, Locals: []string{s}, Body: []api.Stmt{{Op: i, Name: s, Arg: s, Index: []api.Expr{{Op: i}}, Expr: api.Expr{Op: i, N: n, Name: s}, Body: []api.Stmt{{Op: i}}}}}},
			}
			wantRefused(t, p, api.ErrSyntax)
			c = small(in)
			c.Threads[0].Regs = 32
			for site := range 2 {
				c.Threads[0].Instrs[0].Site = site
				wantValid(t, c, "instruction "+strconv.Itoa(i), specValid(c))
			}
		}
	}
}

// P2

// spare returns l with spare capacity that holds x.
func spare[T any](l []T, x T) []T {
	return slices.Concat(l, []T{x, x, x})[:len(l)]
}

func all[T any](l []T) string {
	return fmt.Sprint(l[:len(l)+3])
}

func TestArgumentsStay(t *testing.T) {
	for _, bad := range []string{"x", "z"} {
		e := api.Expr{Op: api.EAdd, L: spare([]api.Expr{{Op: api.ENum, N: 3}, {Op: api.EName, Name: bad}}, api.Expr{Op: 99})}
		inner := spare([]api.Stmt{{Op: api.SAssign, Name: "l", Expr: e}}, api.Stmt{Op: 98})
		other := spare([]api.Stmt{{Op: api.SAssign, Name: "a", Index: spare([]api.Expr{e}, api.Expr{Op: 97}), Expr: e}}, api.Stmt{Op: 96})
		p := api.Program{
			Decls:   spare([]api.Decl{{Kind: api.DVar, Name: "x"}, {Kind: api.DVar, Name: "a", Size: 2}, {Kind: api.DMutex, Name: "m"}, {Kind: api.DCond, Name: "c", On: "m"}}, api.Decl{Kind: 95}),
			Threads: spare([]api.Thread{{Name: "t", Locals: spare([]string{"l"}, "k"), Body: spare([]api.Stmt{{Op: api.SIf, Expr: e, Body: inner, Else: other}}, api.Stmt{Op: 94})}}, api.Thread{Name: "u"}),
		}
		whole := func() string {
			x := p.Threads[0]
			return all(p.Decls) + all(p.Threads) + all(x.Locals) + all(x.Body) + all(inner) + all(other) + all(other[0].Index) + all(e.L)
		}
		before := whole()
		if _, err, _ := Program(p); (err == api.OK) != (bad == "x") {
			t.Errorf("error %d", err)
		}
		if w := World(p); (len(w.Threads) == 1) != (bad == "x") {
			t.Errorf("World = %+v", w)
		}
		if whole() != before {
			t.Error("an argument changed")
		}
	}
}

func TestWorldsAndCodesStay(t *testing.T) {
	for _, name := range []string{"x", "m"} {
		c := richCode(t)
		c.World.Cells[0].Name = name
		w := &c.World
		w.Cells, w.Locks, w.Conds = spare(w.Cells, api.Cell{Name: "z"}), spare(w.Locks, api.Lock{Name: "z"}), spare(w.Conds, api.Cond{Name: "z"})
		w.Futures, w.Threads, w.Sites = spare(w.Futures, "z"), spare(w.Threads, "z"), spare(w.Sites, api.Site{Line: 99})
		c.Threads = spare(c.Threads, api.ThreadCode{Regs: 99})
		for i := range c.Threads {
			c.Threads[i].Instrs = spare(c.Threads[i].Instrs, api.Instr{Op: 99})
		}
		whole := func() string {
			s := all(w.Cells) + all(w.Locks) + all(w.Conds) + all(w.Futures) + all(w.Threads) + all(w.Sites) + all(c.Threads)
			for _, x := range c.Threads {
				s += all(x.Instrs)
			}
			return s
		}
		before := whole()
		if good := name == "x"; ValidWorld(*w) != good || Valid(c) != good {
			t.Errorf("name %s: valid = %v", name, !good)
		}
		if whole() != before {
			t.Error("an argument changed")
		}
	}
}

// overwrite fills a list with its spare capacity.
func overwrite[T any](l []T, x T) {
	l = l[:cap(l)]
	for i := range l {
		l[i] = x
	}
}

func TestResultsAreNew(t *testing.T) {
	p := program(t, everything+"thread t(k) { if x { x = 1; } else { a[k] = 2; } } thread u() { v = 1; } thread w() { }")
	first, _, _ := Program(p)
	second, _, _ := Program(p)
	world := World(p)
	want := specCode(p)
	overwrite(first.World.Cells, api.Cell{})
	overwrite(first.World.Sites, api.Site{Line: 99})
	// Each list keeps its values while the others are overwritten.
	if !slices.Equal(first.World.Futures, want.World.Futures) || !slices.Equal(first.World.Threads, want.World.Threads) {
		t.Error("two lists of a world share memory")
	}
	overwrite(first.World.Futures, "z")
	if !slices.Equal(first.World.Threads, want.World.Threads) {
		t.Error("futures and threads share memory")
	}
	overwrite(first.World.Threads, "z")
	overwrite(first.World.Locks, api.Lock{})
	overwrite(first.World.Conds, api.Cond{})
	for i := range first.Threads {
		if !slices.Equal(first.Threads[i].Instrs, want.Threads[i].Instrs) {
			t.Errorf("the instructions of thread %d share memory", i)
		}
		overwrite(first.Threads[i].Instrs, api.Instr{})
	}
	overwrite(first.Threads, api.ThreadCode{})
	overwrite(p.Decls, api.Decl{})
	overwrite(p.Threads[0].Locals, "z")
	overwrite(p.Threads[0].Body, api.Stmt{})
	overwrite(p.Threads, api.Thread{})
	if !sameCode(second, want) || !sameWorld(world, want.World) {
		t.Error("a result changed")
	}
}

// P3

func TestCallsAreIndependent(t *testing.T) {
	var programs []api.Program
	var results []string
	result := func(p api.Program) string {
		c, err, line := Program(p)
		s := fmt.Sprint(c, err, line, World(p), Valid(c), ValidWorld(c.World))
		for _, x := range c.Threads {
			s += Text(x.Instrs[0])
		}
		return s
	}
	for seed := range uint64(50) {
		p := newMaker(seed).program()
		programs, results = append(programs, p), append(results, result(p))
	}
	var wait sync.WaitGroup
	for range 8 {
		wait.Go(func() {
			for range 5 {
				for i, p := range programs {
					if got := result(p); got != results[i] {
						t.Errorf("results %s and %s for one program", got, results[i])
					}
				}
			}
		})
	}
	wait.Wait()
}

// P6

// padded returns statements with empty slices for nil ones.
func padded(l []api.Stmt) []api.Stmt {
	all := []api.Stmt{}
	for _, s := range l {
		if s.Index == nil {
			s.Index = []api.Expr{}
		}
		if s.Expr.L == nil {
			s.Expr.L = []api.Expr{}
		}
		s.Body, s.Else = padded(s.Body), padded(s.Else)
		all = append(all, s)
	}
	return all
}

func TestNilAndEmptySlicesAreEquivalent(t *testing.T) {
	for seed := range uint64(200) {
		p := newMaker(seed).program()
		want, _, _ := Program(p)
		for i, x := range p.Threads {
			p.Threads[i].Body, p.Threads[i].Locals = padded(x.Body), append([]string{}, x.Locals...)
		}
		p.Decls = append([]api.Decl{}, p.Decls...)
		if c, err, _ := Program(p); err != api.OK || !sameCode(c, want) {
			t.Errorf("seed %d: error %d, other code", seed, err)
		}
	}
	wantRefused(t, api.Program{Decls: []api.Decl{}, Threads: []api.Thread{}}, api.ErrSyntax)
	end := []api.ThreadCode{{Instrs: []api.Instr{{Op: api.IEnd, Site: -1}}}}
	for _, w := range []api.World{{Threads: []string{"t"}}, {Cells: []api.Cell{}, Locks: []api.Lock{}, Conds: []api.Cond{}, Futures: []string{}, Threads: []string{"t"}, Sites: []api.Site{}}} {
		wantWorldValid(t, w, "only a thread", true)
		wantValid(t, api.Code{World: w, Threads: end}, "only an end", true)
		wantValid(t, api.Code{World: w, Threads: []api.ThreadCode{}}, "no thread", false)
		wantValid(t, api.Code{World: w, Threads: []api.ThreadCode{{Instrs: []api.Instr{}}}}, "no instruction", false)
		w.Threads = []string{}
		wantWorldValid(t, w, "no thread", false)
	}
}

// P7

func TestGreatNumbers(t *testing.T) {
	for _, n := range []int64{0, 1, math.MaxInt32, math.MaxInt64} {
		c, err, _ := Program(withBody(api.Stmt{Op: api.SAssign, Name: "x", Expr: api.Expr{Op: api.ENum, N: n}}))
		if err != api.OK || c.Threads[0].Instrs[0] != (api.Instr{Op: api.IConst, N: n}) || !Valid(c) {
			t.Errorf("constant %d: error %d, %+v", n, err, c)
		}
	}
}
