package check

import (
	"math/rand/v2"
	"slices"
	"testing"

	"interleave/api"
	"interleave/parse"
)

// P4.1 to P4.3 on random programs, against a second definition: it lists all errors of a program, each with its place in the document's order, and takes the least one.

// A fault is an error with its place: the item of P4.2, the number of the part, and the rank among the errors of the part.
type fault struct {
	at   []int
	err  api.Errno
	line int
}

type spec struct {
	p      api.Program
	faults []fault
}

func (s *spec) add(wrong bool, err api.Errno, line int, at ...int) {
	if wrong {
		s.faults = append(s.faults, fault{at, err, line})
	}
}

func specProgram(p api.Program) (api.Errno, int) {
	if !parse.Shaped(p) {
		return api.ErrSyntax, 0
	}
	s := &spec{p: p}
	s.declarations()
	s.add(len(p.Threads) > api.MaxThreads, api.ErrTooLarge, 0, 3)
	s.threads()
	s.statements()
	if len(s.faults) == 0 {
		return api.OK, 0
	}
	least := slices.MinFunc(s.faults, func(a, b fault) int { return slices.Compare(a.at, b.at) })
	return least.err, least.line
}

// sizes returns the cells, locks, conditions and futures of declarations.
func sizes(decls []api.Decl) []int {
	n := make([]int, 4)
	for _, d := range decls {
		n[[]int{0, 0, 0, 1, 1, 2, 3}[d.Kind]] += max(d.Size, 1)
	}
	return n
}

func (s *spec) declarations() {
	limits := []int{api.MaxCells, api.MaxLocks, api.MaxConds, api.MaxFutures}
	for i, d := range s.p.Decls {
		kinds := map[string]int{}
		for _, earlier := range slices.Backward(s.p.Decls[:i]) {
			kinds[earlier.Name] = earlier.Kind
		}
		s.add(kinds[d.Name] != 0, api.ErrDuplicate, d.Line, 2, i, 1)
		s.add(d.Size > api.MaxSize, api.ErrTooLarge, d.Line, 2, i, 2)
		for k, n := range sizes(s.p.Decls[:i+1]) {
			s.add(n > limits[k], api.ErrTooLarge, d.Line, 2, i, 2)
		}
		s.add(d.Kind == api.DCond && kinds[d.On] == 0, api.ErrUndefined, d.Line, 2, i, 3)
		s.add(d.Kind == api.DCond && kinds[d.On] != api.DMutex, api.ErrKind, d.Line, 2, i, 4)
	}
}

func (s *spec) threads() {
	var global, all []string
	for _, d := range s.p.Decls {
		global = append(global, d.Name)
	}
	for i, t := range s.p.Threads {
		s.add(slices.Contains(global, t.Name), api.ErrDuplicate, t.Line, 4, i)
		global = append(global, t.Name)
	}
	for i, t := range s.p.Threads {
		s.add(len(t.Locals) > api.MaxLocals, api.ErrTooLarge, t.Line, 5, i, 1)
		all = slices.Clone(global)
		for _, l := range t.Locals {
			s.add(slices.Contains(all, l), api.ErrDuplicate, t.Line, 5, i, 2)
			all = append(all, l)
		}
	}
}

// A spot is a statement with its thread, and with the statements around it.
type spot struct {
	api.Stmt
	thread int
	around []api.Stmt
}

func spotsOf(l []api.Stmt, thread int, around []api.Stmt) []spot {
	var all []spot
	for _, s := range l {
		all = append(all, spot{s, thread, around})
		inner := append(slices.Clone(around), s)
		all = append(all, spotsOf(s.Body, thread, inner)...)
		all = append(all, spotsOf(s.Else, thread, inner)...)
	}
	return all
}

func (s *spec) statements() {
	var spots []spot
	for i, t := range s.p.Threads {
		spots = append(spots, spotsOf(t.Body, i, nil)...)
	}
	s.add(len(spots) > api.MaxStmts, api.ErrTooLarge, 0, 6)
	for i, x := range spots {
		at := func(rank int) []int { return []int{7, i, rank} }
		s.add(len(x.around)+1 > api.MaxNest, api.ErrTooLarge, x.Line, at(0)...)
		s.names(x, at)
		s.add(s.misplaced(x), api.ErrNesting, x.Line, at(5)...)
		again := func(y spot) bool { return y.Op == x.Op && y.Name == x.Name }
		s.add((x.Op == api.SSpawn || x.Op == api.SSet) && slices.ContainsFunc(spots[:i], again), api.ErrOnce, x.Line, at(6)...)
		if len(x.Index) == 1 {
			s.expression(x, x.Index[0], at(7))
		}
		if x.Op <= api.SWhile || x.Op == api.SSet {
			s.expression(x, x.Expr, at(8))
		}
	}
}

func (s *spec) names(x spot, at func(int) []int) {
	asked := map[int]string{api.SLock: "mutex", api.SRead: "rwlock", api.SWrite: "rwlock", api.SWait: "cond", api.SNotify: "cond", api.SNotifyAll: "cond", api.SSpawn: "thread", api.SJoin: "thread", api.SSet: "future", api.SGet: "local"}[x.Op]
	if x.Op == api.SAssign {
		asked = "local scalar"
		if len(x.Index) == 1 {
			asked = "array"
		}
	}
	if asked != "" {
		err := s.nameError(x.thread, x.Name, asked)
		s.add(err != api.OK, err, x.Line, at(1)...)
	}
	if x.Op == api.SGet {
		err := s.nameError(x.thread, x.Arg, "future")
		s.add(err != api.OK, err, x.Line, at(2)...)
	}
}

// nameError returns the error of a name that must be of one of the kinds in a text.
func (s *spec) nameError(thread int, name, asked string) api.Errno {
	kinds := map[string]string{}
	for _, t := range slices.Backward(s.p.Threads) {
		kinds[t.Name] = "thread"
	}
	for _, d := range slices.Backward(s.p.Decls) {
		kinds[d.Name] = []string{"", "scalar", "scalar", "mutex", "rwlock", "cond", "future"}[d.Kind]
		if d.Size > 0 {
			kinds[d.Name] = "array"
		}
	}
	if thread >= 0 && thread < len(s.p.Threads) {
		for _, l := range s.p.Threads[thread].Locals {
			kinds[l] = "local"
		}
	}
	switch kinds[name] {
	case "":
		return api.ErrUndefined
	case "local", "scalar":
		return errorIf(asked != "local scalar" && asked != kinds[name], api.ErrKind)
	}
	return errorIf(asked != kinds[name], api.ErrKind)
}

func (s *spec) misplaced(x spot) bool {
	inside := map[int]bool{}
	locks, rwlocks := map[string]bool{}, map[string]bool{}
	for _, y := range x.around {
		inside[y.Op] = true
		locks[y.Name] = locks[y.Name] || y.Op == api.SLock
		rwlocks[y.Name] = rwlocks[y.Name] || y.Op == api.SRead || y.Op == api.SWrite
	}
	guard := ""
	for _, d := range s.p.Decls {
		if d.Name == x.Name {
			guard = d.On
		}
	}
	own := x.Name == s.p.Threads[x.thread].Name
	switch x.Op {
	case api.SAssign, api.SIf, api.SWhile:
		return false
	case api.SLock:
		return inside[api.STransaction] || locks[x.Name]
	case api.SRead, api.SWrite:
		return inside[api.STransaction] || rwlocks[x.Name]
	case api.SAtomic:
		return inside[api.STransaction] || inside[api.SAtomic]
	case api.SWait:
		return inside[api.STransaction] || inside[api.SAtomic] || !locks[guard]
	case api.SNotify, api.SNotifyAll:
		return inside[api.STransaction] || !locks[guard]
	case api.SSpawn:
		return inside[api.STransaction] || inside[api.SAtomic] || inside[api.SWhile] || own || x.Name == s.p.Threads[0].Name
	case api.SJoin:
		return inside[api.STransaction] || inside[api.SAtomic] || own
	case api.SSet:
		return inside[api.STransaction] || inside[api.SWhile]
	}
	return inside[api.STransaction]
}

func (s *spec) expression(x spot, e api.Expr, at []int) {
	err := specExpr(s.p, x.thread, e)
	s.add(err != api.OK, err, x.Line, at...)
}

func specExpr(p api.Program, thread int, e api.Expr) api.Errno {
	if !parse.ShapedExpr(e) {
		return api.ErrSyntax
	}
	s := &spec{p: p}
	if n, depth := specSize(e); n > api.MaxNodes || depth > api.MaxDepth {
		return api.ErrTooLarge
	}
	for _, x := range preorder(e) {
		err := api.OK
		if x.Op == api.EName {
			err = s.nameError(thread, x.Name, "local scalar")
		} else if x.Op == api.EIndex {
			err = s.nameError(thread, x.Name, "array")
		}
		if err != api.OK {
			return err
		}
	}
	return api.OK
}

func specSize(e api.Expr) (nodes, depth int) {
	for _, x := range e.L {
		n, d := specSize(x)
		nodes, depth = nodes+n, max(depth, d)
	}
	return nodes + 1, depth + 1
}

func preorder(e api.Expr) []api.Expr {
	all := []api.Expr{e}
	for _, x := range e.L {
		all = append(all, preorder(x)...)
	}
	return all
}

// A maker makes up programs. It chooses what fits to a place, but once in a while it chooses anything.
type maker struct {
	*rand.Rand
	slips  int // one choice of so many is anything
	line   int
	p      api.Program
	thread int
	around []api.Stmt
	left   int // how many statements may still be made
	used   map[string]bool
}

func newMaker(seed uint64) *maker {
	m := &maker{Rand: rand.New(rand.NewPCG(seed, 4)), slips: 10 << (seed % 8), used: map[string]bool{}}
	m.left = 1 + m.IntN(30)
	if m.chance(5) {
		m.left = 40 + m.IntN(26)
	}
	return m
}

func (m *maker) chance(n int) bool { return m.IntN(n) == 0 }

func (m *maker) slip() bool { return m.chance(m.slips) }

func (m *maker) one(l ...string) string { return l[m.IntN(len(l))] }

func (m *maker) nextLine() int {
	m.line += 1 + m.IntN(3)
	return m.line
}

// of returns one of some names, or any.
func (m *maker) of(l ...string) string {
	if m.slip() {
		return m.one(append(slices.Clone(allNames), "n", "q", "g", "k", "t", "w", "d", "b")...)
	}
	return m.one(l...)
}

func (m *maker) program() api.Program {
	for _, d := range []api.Decl{
		{Kind: api.DVar, Name: "x"}, {Kind: api.DVolatile, Name: "v"}, {Kind: api.DVar, Name: "a", Size: 1 + m.IntN(4)}, {Kind: api.DMutex, Name: "m"}, {Kind: api.DMutex, Name: "n"},
		{Kind: api.DRWLock, Name: "r"}, {Kind: api.DCond, Name: "c", On: m.of("m", "n")}, {Kind: api.DCond, Name: "d", On: m.of("m", "n")}, {Kind: api.DFuture, Name: "f"}, {Kind: api.DFuture, Name: "g"},
	} {
		d.Line = m.nextLine()
		if m.slip() && m.chance(5) {
			m.spoil(&d)
		}
		if !m.slip() || m.chance(2) {
			m.p.Decls = append(m.p.Decls, d)
		}
	}
	if m.slip() {
		m.Shuffle(len(m.p.Decls), func(i, j int) { m.p.Decls[i], m.p.Decls[j] = m.p.Decls[j], m.p.Decls[i] })
	}
	for _, name := range []string{"t", "u", "w", "y", "z1"} {
		t := api.Thread{Line: m.nextLine(), Name: name, Locals: []string{"l", m.one("k", "b")}}
		if m.slip() && m.chance(5) {
			t.Name = m.of("t", "u", "w", "x", "m")
		}
		for m.slip() {
			t.Locals = append(t.Locals, m.of("k1", "k2", "k3", "k4"))
		}
		if len(m.p.Threads) < 3 || m.slip() {
			m.p.Threads = append(m.p.Threads, t)
		}
	}
	for m.thread = range m.p.Threads {
		m.p.Threads[m.thread].Body = m.body(25)
	}
	return m.p
}

func (m *maker) spoil(d *api.Decl) {
	switch m.IntN(4) {
	case 0:
		d.Name = m.one(allNames...)
	case 1:
		d.Kind, d.Size, d.On = 1+m.IntN(6), 0, ""
		if d.Kind == api.DCond {
			d.On = m.one(allNames...)
		}
	case 2:
		*d = api.Decl{Kind: api.DVar, Line: d.Line, Name: d.Name, Size: m.IntN(8)}
	default:
		*d = api.Decl{Kind: d.Kind, Line: d.Line, Name: d.Name, On: d.On}
	}
}

func (m *maker) body(width int) []api.Stmt {
	var body []api.Stmt
	for m.left > 0 && !m.chance(width) && (len(m.around) < api.MaxNest || m.slip()) {
		m.left--
		body = append(body, m.stmt())
	}
	return body
}

func (m *maker) stmt() api.Stmt {
	s := m.head()
	for !m.slip() && m.misplaced(s) {
		s = m.head()
	}
	m.used[s.Name] = m.used[s.Name] || s.Op == api.SSpawn || s.Op == api.SSet
	if s.Op >= api.SIf && s.Op <= api.SAtomic {
		m.around = append(m.around, s)
		s.Body = m.body(4)
		if s.Op == api.SIf && m.chance(2) {
			s.Else = m.body(4)
		}
		m.around = m.around[:len(m.around)-1]
	}
	return s
}

func (m *maker) misplaced(s api.Stmt) bool {
	x := &spec{p: m.p}
	once := s.Op == api.SSpawn || s.Op == api.SSet
	return x.misplaced(spot{s, m.thread, m.around}) || once && m.used[s.Name] && !m.chance(20)
}

// head returns a statement without those inside it.
func (m *maker) head() api.Stmt {
	s := api.Stmt{Op: 1 + m.IntN(15), Line: m.nextLine()}
	switch s.Op {
	case api.SAssign:
		s.Name = m.of("l", "x", "v")
		if m.chance(3) {
			s.Name, s.Index = m.of("a"), []api.Expr{m.expr(1)}
		}
	case api.SLock:
		s.Name = m.of("m", "n")
	case api.SRead, api.SWrite:
		s.Name = m.of("r")
	case api.SWait, api.SNotify, api.SNotifyAll:
		s.Name = m.of("c", "d")
	case api.SSpawn, api.SJoin:
		s.Name = m.of("u", "w")
	case api.SSet:
		s.Name = m.of("f", "g")
	case api.SGet:
		s.Name, s.Arg = m.of("l"), m.of("f", "g")
	}
	if s.Op <= api.SWhile || s.Op == api.SSet {
		s.Expr = m.expr(1)
	}
	return s
}

func (m *maker) expr(depth int) api.Expr {
	if depth > 2 && !m.chance(4) || m.chance(2) {
		if m.chance(3) {
			return num(m.Int64N(5))
		}
		return name(m.of("l", "x", "v"))
	}
	switch m.IntN(5) {
	case 0:
		return element(m.of("a"), m.expr(depth+1))
	case 1:
		return op(m.IntN(2)+api.ENeg, m.expr(depth+1))
	}
	return op(api.EAdd+m.IntN(13), m.expr(depth+1), m.expr(depth+1))
}

func TestRandomPrograms(t *testing.T) {
	told, ops, good := map[api.Errno]int{}, map[int]int{}, map[int]int{}
	for seed := uint64(0); seed < 10000 && !t.Failed(); seed++ {
		p := newMaker(seed).program()
		err, line := specProgram(p)
		wantValue(t, p, err, line)
		told[err]++
		spots := 0
		for i, x := range p.Threads {
			for _, y := range spotsOf(x.Body, i, nil) {
				ops[y.Op]++
				spots++
			}
		}
		if err == api.OK {
			good[spots/10]++
		}
	}
	for _, err := range []api.Errno{api.OK, api.ErrTooLarge, api.ErrDuplicate, api.ErrUndefined, api.ErrKind, api.ErrNesting, api.ErrOnce} {
		if told[err] < 100 {
			t.Errorf("only %d programs with error %d", told[err], err)
		}
	}
	for o := api.SAssign; o <= api.SGet; o++ {
		if ops[o] < 1000 {
			t.Errorf("only %d statements of kind %d", ops[o], o)
		}
	}
	for tens := range 6 {
		if good[tens] < 20 {
			t.Errorf("only %d programs of %d0 statements without an error", good[tens], tens)
		}
	}
}

func TestRandomExpressions(t *testing.T) {
	told := map[api.Errno]int{}
	for seed := uint64(0); seed < 5000 && !t.Failed(); seed++ {
		m := newMaker(seed)
		p := m.program()
		for thread := -1; thread <= len(p.Threads); thread++ {
			e := m.expr(m.IntN(4) - 5)
			err := specExpr(p, thread, e)
			wantExpr(t, p, thread, e, err)
			told[err]++
		}
	}
	for _, err := range []api.Errno{api.OK, api.ErrTooLarge, api.ErrUndefined, api.ErrKind} {
		if told[err] < 300 {
			t.Errorf("only %d expressions with error %d", told[err], err)
		}
	}
}
