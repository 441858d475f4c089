package compile

import (
	"math/rand/v2"
	"slices"
	"strconv"
	"testing"

	"interleave/api"
	"interleave/check"
)

// P6.1 to P6.5 on random programs, worlds and codes, against second definitions.

// specWorld looks through the declarations and the statements once for each kind of object.
func specWorld(p api.Program) api.World {
	var w api.World
	for _, d := range p.Decls {
		for i := range max(d.Size, 1) {
			if d.Kind == api.DVar || d.Kind == api.DVolatile {
				w.Cells = append(w.Cells, api.Cell{Name: d.Name, Index: i, Size: d.Size, Volatile: d.Kind == api.DVolatile, Init: d.Init})
			}
		}
	}
	var locks []string
	for _, d := range p.Decls {
		if d.Kind == api.DMutex || d.Kind == api.DRWLock {
			locks = append(locks, d.Name)
			w.Locks = append(w.Locks, api.Lock{Name: d.Name, RW: d.Kind == api.DRWLock})
		}
	}
	for _, d := range p.Decls {
		if d.Kind == api.DCond {
			w.Conds = append(w.Conds, api.Cond{Name: d.Name, Mutex: slices.Index(locks, d.On)})
		}
		if d.Kind == api.DFuture {
			w.Futures = append(w.Futures, d.Name)
		}
	}
	for i, t := range p.Threads {
		w.Threads = append(w.Threads, t.Name)
		w.Sites = specSites(w.Sites, i, len(w.Sites), t.Body)
	}
	return w
}

// specSites appends the sites of statements to those of a program, of which the first ones belong to earlier threads.
func specSites(sites []api.Site, thread, first int, body []api.Stmt) []api.Site {
	for _, s := range body {
		sites = append(sites, api.Site{Thread: thread, Stmt: len(sites) - first, Line: s.Line})
		sites = specSites(specSites(sites, thread, first, s.Body), thread, first, s.Else)
	}
	return sites
}

// A spec translates a thread without changing an instruction later: the place where each list begins is known ahead of it.
type spec struct {
	p      api.Program
	w      api.World
	locals []string
}

func specCode(p api.Program) api.Code {
	c := api.Code{World: specWorld(p)}
	site := 0
	for _, t := range p.Threads {
		s := &spec{p, c.World, t.Locals}
		l := s.body(t.Body, 0, site)
		site += countOf(t.Body)
		l = append(l, api.Instr{Op: 28, Site: -1})
		regs := len(t.Locals)
		for _, i := range l {
			if i.Op != api.IJump {
				regs = max(regs, greatest(i)+1)
			}
		}
		c.Threads = append(c.Threads, api.ThreadCode{Regs: regs, Instrs: l})
	}
	return c
}

// greatest returns the greatest register that an instruction names, or -1.
func greatest(i api.Instr) int {
	switch i.Op {
	case api.IConst, api.ILoad, api.IBranch, api.IGet:
		return i.A
	case api.IMove, api.IUnary:
		return max(i.A, i.B)
	case api.IBinary:
		return max(i.A, i.B, i.C)
	case api.ILoadAt:
		return max(i.A, i.C)
	case api.IStore, api.ISet:
		return i.B
	case api.IStoreAt:
		return max(i.B, i.C)
	}
	return -1
}

func countOf(body []api.Stmt) int {
	n := len(body)
	for _, s := range body {
		n += countOf(s.Body) + countOf(s.Else)
	}
	return n
}

func (s *spec) body(body []api.Stmt, at, site int) []api.Instr {
	var l []api.Instr
	for _, x := range body {
		l = append(l, s.stmt(x, at+len(l), site)...)
		site += 1 + countOf(x.Body) + countOf(x.Else)
	}
	return l
}

// stmt returns the instructions of a statement, of which the first one is instruction at.
func (s *spec) stmt(x api.Stmt, at, site int) []api.Instr {
	k := len(s.locals)
	locks, conds := map[string]int{}, map[string]int{}
	for i, l := range s.w.Locks {
		locks[l.Name] = i
	}
	for i, c := range s.w.Conds {
		conds[c.Name] = i
	}
	ends := map[int][2]int{api.SLock: {11, 12}, api.SRead: {13, 14}, api.SWrite: {15, 16}, api.STransaction: {17, 18}, api.SAtomic: {19, 20}}
	var l []api.Instr
	switch x.Op {
	case api.SAssign:
		l = s.assign(x, k)
	case api.SIf, api.SWhile:
		return s.jumps(x, at, site)
	case api.SLock, api.SRead, api.SWrite, api.STransaction, api.SAtomic:
		first, last := api.Instr{Op: ends[x.Op][0], A: locks[x.Name], Site: site}, api.Instr{Op: ends[x.Op][1], A: locks[x.Name], Site: site}
		return slices.Concat([]api.Instr{first}, s.body(x.Body, at+1, site+1), []api.Instr{last})
	case api.SWait, api.SNotify, api.SNotifyAll:
		l = []api.Instr{{Op: x.Op - api.SWait + 21, A: conds[x.Name]}}
	case api.SSpawn, api.SJoin:
		l = []api.Instr{{Op: x.Op - api.SSpawn + 24, A: slices.Index(s.w.Threads, x.Name)}}
	case api.SSet:
		l = append(s.value(x.Expr, k), api.Instr{Op: 26, A: slices.Index(s.w.Futures, x.Name), B: k})
	case api.SGet:
		l = []api.Instr{{Op: 27, A: slices.Index(s.locals, x.Name), B: slices.Index(s.w.Futures, x.Arg)}}
	}
	return placed(l, site)
}

func placed(l []api.Instr, site int) []api.Instr {
	for i := range l {
		l[i].Site = site
	}
	return l
}

func (s *spec) assign(x api.Stmt, k int) []api.Instr {
	if len(x.Index) > 0 {
		cell := s.cell(x.Name)
		return slices.Concat(s.value(x.Index[0], k), s.value(x.Expr, k+1), []api.Instr{{Op: 9, A: cell, B: k + 1, C: k, N: int64(s.w.Cells[cell].Size)}})
	}
	last := api.Instr{Op: 8, A: s.cell(x.Name), B: k}
	if slices.Contains(s.locals, x.Name) {
		last = api.Instr{Op: 2, A: slices.Index(s.locals, x.Name), B: k}
	}
	return append(s.value(x.Expr, k), last)
}

func (s *spec) jumps(x api.Stmt, at, site int) []api.Instr {
	k := len(s.locals)
	test := s.value(x.Expr, k)
	body := s.body(x.Body, at+len(test)+1, site+1)
	behind := at + len(test) + 1 + len(body)
	branch, jump := api.Instr{Op: 10, A: k, B: behind}, []api.Instr(nil)
	if x.Op == api.SWhile {
		branch.B, jump = behind+1, []api.Instr{{Op: 5, A: at}}
	}
	var other []api.Instr
	if len(x.Else) > 0 {
		other = s.body(x.Else, behind+1, site+1+countOf(x.Body))
		branch.B, jump = behind+1, []api.Instr{{Op: 5, A: behind + 1 + len(other)}}
	}
	return slices.Concat(placed(append(test, branch), site), body, placed(jump, site), other)
}

// cell returns the number of the cells that are declared ahead of a variable.
func (s *spec) cell(name string) int {
	n := 0
	for _, d := range s.p.Decls {
		if d.Name == name {
			break
		}
		if d.Kind == api.DVar || d.Kind == api.DVolatile {
			n += max(d.Size, 1)
		}
	}
	return n
}

func (s *spec) value(e api.Expr, d int) []api.Instr {
	var l []api.Instr
	for i, x := range e.L {
		l = append(l, s.value(x, d+i)...)
	}
	switch {
	case e.Op == api.ENum:
		return []api.Instr{{Op: 1, A: d, N: e.N}}
	case e.Op == api.EName && slices.Contains(s.locals, e.Name):
		return []api.Instr{{Op: 2, A: d, B: slices.Index(s.locals, e.Name)}}
	case e.Op == api.EName:
		return []api.Instr{{Op: 6, A: d, B: s.cell(e.Name)}}
	case e.Op == api.EIndex:
		cell := s.cell(e.Name)
		return append(l, api.Instr{Op: 7, A: d, B: cell, C: d, N: int64(s.w.Cells[cell].Size)})
	case e.Op <= api.ENot:
		return append(l, api.Instr{Op: 3, A: d, B: d, N: int64(e.Op)})
	}
	return append(l, api.Instr{Op: 4, A: d, B: d, C: d + 1, N: int64(e.Op)})
}

// A maker makes up programs without errors.
type maker struct {
	*rand.Rand
	p      api.Program
	names  map[string][]string // of the objects of each kind
	conds  map[string]string   // the mutex of each condition
	thread int
	around []api.Stmt
	used   map[string]bool
	left   int // how many statements may still be made
	nodes  int // how many nodes the expression may still have
}

func newMaker(seed uint64) *maker {
	m := &maker{Rand: rand.New(rand.NewPCG(seed, 6)), names: map[string][]string{}, conds: map[string]string{}, used: map[string]bool{}}
	m.left = m.IntN(api.MaxStmts + 1)
	return m
}

func (m *maker) chance(n int) bool { return m.IntN(n) == 0 }

func (m *maker) one(kinds ...string) string {
	var l []string
	for _, k := range kinds {
		l = append(l, m.names[k]...)
	}
	if len(l) == 0 {
		return ""
	}
	return l[m.IntN(len(l))]
}

func (m *maker) line() int {
	if m.chance(10) {
		return int(m.Uint64())
	}
	return m.IntN(20)
}

func (m *maker) program() api.Program {
	wanted := m.IntN(20)
	for i := range wanted {
		m.declare("d" + strconv.Itoa(i))
	}
	for i := range 1 + m.IntN(api.MaxThreads) {
		t := api.Thread{Name: "t" + strconv.Itoa(i), Line: m.line()}
		for k := range m.IntN(api.MaxLocals + 1) {
			t.Locals = append(t.Locals, "l"+strconv.Itoa(k))
		}
		m.Shuffle(len(t.Locals), func(i, j int) { t.Locals[i], t.Locals[j] = t.Locals[j], t.Locals[i] })
		m.p.Threads = append(m.p.Threads, t)
		m.names["thread"] = append(m.names["thread"], t.Name)
	}
	for m.thread = range m.p.Threads {
		m.names["local"] = m.p.Threads[m.thread].Locals
		m.p.Threads[m.thread].Body = m.body(20)
	}
	return m.p
}

func (m *maker) declare(name string) {
	kind := 1 + m.IntN(6)
	d := api.Decl{Kind: kind, Line: m.line(), Name: name}
	word := []string{"", "scalar", "scalar", "mutex", "rwlock", "cond", "future"}[kind]
	if kind <= api.DVolatile {
		d.Init = m.Int64N(9) - 4
	}
	if kind == api.DVar && m.chance(2) {
		d.Size, word = 1+m.IntN(api.MaxSize), "array"
	}
	if kind == api.DCond {
		d.On = m.one("mutex")
	}
	m.p.Decls = append(m.p.Decls, d)
	if err, _ := check.Program(api.Program{Decls: m.p.Decls, Threads: []api.Thread{{Name: "z"}}}); err != api.OK {
		m.p.Decls = m.p.Decls[:len(m.p.Decls)-1]
		return
	}
	m.names[word] = append(m.names[word], name)
	m.conds[name] = d.On
}

func (m *maker) body(width int) []api.Stmt {
	var body []api.Stmt
	for m.left > 0 && !m.chance(width) && len(m.around) < api.MaxNest {
		s := m.stmt()
		if s.Op != 0 {
			body = append(body, s)
		}
	}
	return body
}

// stmt returns a statement, or one without a kind if the first idea did not fit.
func (m *maker) stmt() api.Stmt {
	s := api.Stmt{Op: 1 + m.IntN(15), Line: m.line()}
	kinds := [][]string{nil, {"local", "scalar", "array"}, nil, nil, {"mutex"}, {"rwlock"}, {"rwlock"}, nil, nil, {"cond"}, {"cond"}, {"cond"}, {"thread"}, {"thread"}, {"future"}, {"local"}}[s.Op]
	s.Name = m.one(kinds...)
	if s.Op == api.SGet {
		s.Arg = m.one("future")
	}
	if kinds != nil && s.Name == "" || s.Op == api.SGet && s.Arg == "" || m.misplaced(s) {
		return api.Stmt{}
	}
	m.left--
	m.used[s.Name] = m.used[s.Name] || s.Op == api.SSpawn || s.Op == api.SSet
	if slices.Contains(m.names["array"], s.Name) {
		s.Index = []api.Expr{m.expr()}
	}
	if s.Op <= api.SWhile || s.Op == api.SSet {
		s.Expr = m.expr()
	}
	if s.Op >= api.SIf && s.Op <= api.SAtomic {
		m.around = append(m.around, s)
		s.Body = m.body(4)
		if s.Op == api.SIf && m.chance(2) {
			s.Else = m.body(4)
		}
		m.around = m.around[:len(m.around)-1]
	}
	return s
}

// inside reports whether one of the statements around is of one of some kinds.
func (m *maker) inside(ops ...int) bool {
	return slices.ContainsFunc(m.around, func(s api.Stmt) bool { return slices.Contains(ops, s.Op) })
}

func (m *maker) locked(name string) bool {
	return slices.ContainsFunc(m.around, func(s api.Stmt) bool { return s.Name == name && s.Op >= api.SLock && s.Op <= api.SWrite })
}

func (m *maker) misplaced(s api.Stmt) bool {
	own := s.Name == m.p.Threads[m.thread].Name
	switch s.Op {
	case api.SAssign, api.SIf, api.SWhile:
		return false
	case api.SLock, api.SRead, api.SWrite:
		return m.inside(api.STransaction) || m.locked(s.Name)
	case api.SAtomic:
		return m.inside(api.STransaction, api.SAtomic)
	case api.SWait:
		return m.inside(api.STransaction, api.SAtomic) || !m.locked(m.conds[s.Name])
	case api.SNotify, api.SNotifyAll:
		return m.inside(api.STransaction) || !m.locked(m.conds[s.Name])
	case api.SSpawn:
		return m.inside(api.STransaction, api.SAtomic, api.SWhile) || own || s.Name == "t0" || m.used[s.Name]
	case api.SJoin:
		return m.inside(api.STransaction, api.SAtomic) || own
	case api.SSet:
		return m.inside(api.STransaction, api.SWhile) || m.used[s.Name]
	}
	return m.inside(api.STransaction)
}

func (m *maker) expr() api.Expr {
	m.nodes = 1 + m.IntN(api.MaxNodes)
	return m.operand(1 + m.IntN(api.MaxDepth))
}

// operand returns an expression of at most depth nodes within one another.
func (m *maker) operand(depth int) api.Expr {
	m.nodes--
	if depth == 1 || m.nodes < 2 || m.chance(4) {
		if s := m.one("local", "scalar"); s != "" && !m.chance(3) {
			return api.Expr{Op: api.EName, Name: s}
		}
		return api.Expr{Op: api.ENum, N: m.Int64N(1 << m.IntN(63))}
	}
	if s := m.one("array"); s != "" && m.chance(4) {
		return api.Expr{Op: api.EIndex, Name: s, L: []api.Expr{m.operand(depth - 1)}}
	}
	if m.chance(4) {
		return api.Expr{Op: api.ENeg + m.IntN(2), L: []api.Expr{m.operand(depth - 1)}}
	}
	m.nodes--
	left := m.operand(depth - 1)
	m.nodes++
	return api.Expr{Op: api.EAdd + m.IntN(13), L: []api.Expr{left, m.operand(depth - 1)}}
}

func sameCode(c, d api.Code) bool {
	same := func(x, y api.ThreadCode) bool { return x.Regs == y.Regs && slices.Equal(x.Instrs, y.Instrs) }
	return sameWorld(c.World, d.World) && slices.EqualFunc(c.Threads, d.Threads, same)
}

func TestRandomPrograms(t *testing.T) {
	ops, decls, sizes, regs := map[int]int{}, map[int]int{}, map[int]int{}, map[int]int{}
	for seed := uint64(0); seed < 2000 && !t.Failed(); seed++ {
		p := newMaker(seed).program()
		if err, line := check.Program(p); err != api.OK {
			t.Fatalf("seed %d: a program with error %d, line %d", seed, err, line)
		}
		c, err, line := Program(p)
		if err != api.OK || line != 0 || !sameCode(c, specCode(p)) {
			t.Errorf("seed %d: error %d, line %d, code %+v; want %+v", seed, err, line, c, specCode(p))
		}
		if !Valid(c) || !specValid(c) || !ValidWorld(c.World) || !specValidWorld(c.World) {
			t.Errorf("seed %d: the code %+v is not valid", seed, c)
		}
		wantWorld(t, p, c.World)
		for _, d := range p.Decls {
			decls[d.Kind]++
		}
		sizes[len(c.World.Sites)/10]++
		for _, x := range c.Threads {
			regs[x.Regs]++
			for _, i := range x.Instrs {
				ops[i.Op]++
			}
		}
	}
	for op := api.IConst; op <= api.IEnd; op++ {
		if ops[op] < 300 {
			t.Errorf("only %d instructions of kind %d", ops[op], op)
		}
	}
	for kind := api.DVar; kind <= api.DFuture; kind++ {
		if decls[kind] < 300 {
			t.Errorf("only %d declarations of kind %d", decls[kind], kind)
		}
	}
	for n := range 10 {
		if n <= 6 && sizes[n] < 20 || regs[n] < 10 {
			t.Errorf("only %d programs of %d0 statements, %d threads with %d registers", sizes[n], n, regs[n], n)
		}
	}
}

// change returns another number, which is often near to n.
func (m *maker) change(n int) int {
	switch m.IntN(4) {
	case 0:
		return n + 1 - 2*m.IntN(2)
	case 1:
		return m.IntN(8)
	case 2:
		return m.IntN(40)
	}
	return []int{-1, 1 << 32, -1 << 63, 1<<63 - 1}[m.IntN(4)]
}

// spoilWorld changes one thing of a world.
func (m *maker) spoilWorld(w *api.World) {
	pick := m.IntN(12)
	switch {
	case pick < 4 && len(w.Cells) > 0:
		m.spoilCells(w)
	case pick < 6 && len(w.Sites) > 0:
		s := &w.Sites[m.IntN(len(w.Sites))]
		*[]*int{&s.Thread, &s.Stmt, &s.Line}[m.IntN(3)] = m.change(m.IntN(3))
	case pick == 6 && len(w.Conds) > 0:
		w.Conds[m.IntN(len(w.Conds))].Mutex = m.change(m.IntN(3))
	case pick == 7 && len(w.Locks) > 0:
		w.Locks[m.IntN(len(w.Locks))] = api.Lock{Name: "d" + strconv.Itoa(m.IntN(20)), RW: m.chance(2)}
	case pick == 8 && len(w.Futures) > 0:
		w.Futures[m.IntN(len(w.Futures))] = "d" + strconv.Itoa(m.IntN(20))
	case pick == 9 && len(w.Threads) > 0:
		w.Threads[m.IntN(len(w.Threads))] = []string{"if", "", "t0", "d1", "good", "1"}[m.IntN(6)]
	case pick == 10:
		w.Sites = w.Sites[:m.IntN(len(w.Sites)+1)]
	default:
		w.Threads = w.Threads[:m.IntN(len(w.Threads)+1)]
	}
}

func (m *maker) spoilCells(w *api.World) {
	i, j := m.IntN(len(w.Cells)), m.IntN(len(w.Cells))
	c := &w.Cells[i]
	switch m.IntN(7) {
	case 0:
		c.Index = m.change(c.Index)
	case 1:
		c.Size = m.change(c.Size)
	case 2:
		c.Init = int64(m.change(0))
	case 3:
		c.Volatile = !c.Volatile
	case 4:
		c.Name = "d" + strconv.Itoa(m.IntN(20))
	case 5:
		w.Cells[i], w.Cells[j] = w.Cells[j], w.Cells[i]
	default:
		w.Cells = slices.Delete(w.Cells, min(i, j), max(i, j))
	}
}

func TestRandomWorlds(t *testing.T) {
	told := map[bool]int{}
	for seed := uint64(0); seed < 6000 && !t.Failed(); seed++ {
		m := newMaker(seed)
		w := World(m.program())
		for m.spoilWorld(&w); m.chance(3); {
			m.spoilWorld(&w)
		}
		got := ValidWorld(w)
		told[got]++
		if got != specValidWorld(w) {
			t.Errorf("seed %d: ValidWorld(%+v) = %v", seed, w, got)
		}
	}
	if told[true] < 800 || told[false] < 800 {
		t.Errorf("%d valid worlds, %d others", told[true], told[false])
	}
}

func (m *maker) spoilCode(c *api.Code) {
	x := &c.Threads[m.IntN(len(c.Threads))]
	i := &x.Instrs[m.IntN(len(x.Instrs))]
	n := m.IntN(len(x.Instrs) + 2)
	switch m.IntN(10) {
	case 0:
		m.spoilWorld(&c.World)
	case 1:
		x.Regs = m.change(x.Regs)
	case 2:
		*i = api.Instr{Op: api.IJump, A: n, Site: i.Site}
	case 3:
		i.Op = m.change(i.Op)
	case 4:
		i.Site = m.change(i.Site)
	case 5:
		i.A = m.change(i.A)
	case 6:
		i.B = m.change(i.B)
	case 7:
		i.C = m.change(i.C)
	case 8:
		i.N = int64(m.change(int(i.N)))
	default:
		for at := range x.Instrs {
			if x.Instrs[at].Op == api.IJump && m.chance(2) {
				x.Instrs[at].A = n
			}
		}
	}
}

func TestRandomCodes(t *testing.T) {
	told := map[bool]int{}
	for seed := uint64(0); seed < 6000 && !t.Failed(); seed++ {
		m := newMaker(seed)
		c, _, _ := Program(m.program())
		for m.spoilCode(&c); m.chance(3); {
			m.spoilCode(&c)
		}
		got := Valid(c)
		told[got]++
		if got != specValid(c) {
			t.Errorf("seed %d: Valid(%+v) = %v", seed, c, got)
		}
	}
	if told[true] < 800 || told[false] < 800 {
		t.Errorf("%d valid codes, %d others", told[true], told[false])
	}
}

// Codes that consist of jumps and few other instructions only.
func TestRandomJumps(t *testing.T) {
	told := map[bool]int{}
	for seed := uint64(0); seed < 6000 && !t.Failed(); seed++ {
		m := newMaker(seed)
		var l []api.Instr
		for range m.IntN(12) {
			l = append(l, []api.Instr{{Op: api.IConst}, {Op: api.IStore}, {Op: api.IBranch}, {Op: api.IJump}, {Op: api.IJump}}[m.IntN(5)])
		}
		for i := range l {
			if l[i].Op == api.IJump {
				l[i].A = m.IntN(len(l) + 1)
			}
		}
		c := small(l...)
		got := Valid(c)
		told[got]++
		if got != specValid(c) {
			t.Errorf("seed %d: Valid(%+v) = %v", seed, c, got)
		}
	}
	if told[true] < 800 || told[false] < 800 {
		t.Errorf("%d valid codes, %d others", told[true], told[false])
	}
}
