package silent

import (
	"math/rand/v2"
	"slices"
	"strconv"
	"strings"
	"testing"

	"interleave/api"
	"interleave/compile"
	"interleave/eval"
	"interleave/parse"
)

// P7.2 and P7.3 on random codes and on codes of programs, against a second definition.

// specWay returns the silent instructions that are executed from an index on, and the index of the event behind them.
func specWay(c api.ThreadCode, pc int) ([]api.Instr, int, bool) {
	var way []api.Instr
	seen := map[int]bool{}
	for {
		if seen[pc] || pc < 0 || pc > len(c.Instrs)-1 {
			return nil, 0, false
		}
		seen[pc] = true
		i := c.Instrs[pc]
		if !slices.Contains([]int{1, 2, 3, 4, 5}, i.Op) {
			return way, pc, true
		}
		way = append(way, i)
		pc++
		if i.Op == api.IJump {
			pc = i.A
		}
	}
}

// specSettle examines all instructions of the way ahead of executing them.
func specSettle(c api.ThreadCode, s api.ThreadState) (api.ThreadState, bool) {
	way, pc, ok := specWay(c, s.PC)
	if !ok || len(s.Regs) != c.Regs || len(s.Taint) != c.Regs {
		return api.ThreadState{}, false
	}
	for _, i := range way {
		named := [][]int{api.IConst: {i.A}, api.IMove: {i.A, i.B}, api.IUnary: {i.A, i.B}, api.IBinary: {i.A, i.B, i.C}, api.IJump: nil}[i.Op]
		if len(named) > 0 && (slices.Min(named) < 0 || slices.Max(named) > c.Regs-1) {
			return api.ThreadState{}, false
		}
		if i.Op == api.IUnary && i.N != 4 && i.N != 5 || i.Op == api.IBinary && (i.N < 6 || i.N > 18) {
			return api.ThreadState{}, false
		}
	}
	s = cloneOf(s)
	s.PC = pc
	for _, i := range way {
		specExecute(&s, i)
	}
	return s, true
}

func specExecute(s *api.ThreadState, i api.Instr) {
	switch i.Op {
	case api.IConst:
		s.Regs[i.A] = i.N
		s.Taint[i.A] = nil
	case api.IMove:
		s.Regs[i.A] = s.Regs[i.B]
		s.Taint[i.A] = slices.Clone(s.Taint[i.B])
	case api.IUnary:
		s.Regs[i.A], _ = eval.Unary(int(i.N), s.Regs[i.B])
		s.Taint[i.A] = slices.Clone(s.Taint[i.B])
	case api.IBinary:
		s.Regs[i.A], _ = eval.Binary(int(i.N), s.Regs[i.B], s.Regs[i.C])
		s.Taint[i.A] = specUnion(s.Taint[i.B], s.Taint[i.C])
	}
}

// A maker makes up codes, states and programs. One choice of so many as slips is anything.
type maker struct {
	*rand.Rand
	slips int
}

func newMaker(seed uint64) *maker {
	return &maker{rand.New(rand.NewPCG(seed, 7)), 10 << (seed % 6)}
}

func (m *maker) chance(n int) bool { return m.IntN(n) == 0 }

func (m *maker) slip() bool { return m.chance(m.slips) }

// index returns an index of a list of n elements, unless it slips.
func (m *maker) index(n int) int {
	if n < 1 || m.slip() {
		return []int{-1, n, n + 1, m.Int()}[m.IntN(4)]
	}
	return m.IntN(n)
}

func (m *maker) number() int64 {
	if m.chance(8) {
		return int64(m.Uint64())
	}
	return m.Int64N(9) - 4
}

func (m *maker) instr(regs, n int) api.Instr {
	i := api.Instr{Op: 1 + m.IntN(5), A: m.index(regs), B: m.index(regs), C: m.index(regs), N: m.number()}
	if i.Op == api.IJump {
		i.A = m.index(n)
	}
	if i.Op == api.IUnary && !m.slip() {
		i.N = int64(api.ENeg + m.IntN(2))
	}
	if i.Op == api.IBinary && !m.slip() {
		i.N = int64(api.EAdd + m.IntN(13))
	}
	if m.chance(10) {
		i.Op = m.IntN(40) - 5
	}
	return i
}

func (m *maker) code() api.ThreadCode {
	c := api.ThreadCode{Regs: 1 + m.IntN(5)}
	if m.slip() {
		c.Regs = m.IntN(3) - 1
	}
	n := m.IntN(20)
	for range n {
		c.Instrs = append(c.Instrs, m.instr(c.Regs, n))
	}
	return c
}

// reads returns a list that is usually ascending.
func (m *maker) reads() []int {
	var l []int
	for range m.IntN(4) {
		l = append(l, m.IntN(8))
	}
	if m.slip() {
		return append(l, -3)
	}
	return specUnion(l, nil)
}

func (m *maker) state(regs, pc int) api.ThreadState {
	s := api.ThreadState{PC: pc, Events: int(m.Uint64())}
	values, taints := regs, regs
	if m.slip() {
		values = m.IntN(5)
	}
	if m.slip() {
		taints = m.IntN(5)
	}
	for range values {
		s.Regs = append(s.Regs, m.number())
	}
	for range taints {
		s.Taint = append(s.Taint, m.reads())
	}
	return s
}

func TestRandomCodes(t *testing.T) {
	some, none, lengths := 0, 0, map[int]int{}
	for seed := uint64(0); seed < 60000 && !t.Failed(); seed++ {
		m := newMaker(seed)
		c := m.code()
		s := m.state(c.Regs, m.index(len(c.Instrs)))
		if want, ok := specSettle(c, s); ok {
			wantState(t, c, s, want)
			some++
			way, _, _ := specWay(c, s.PC)
			lengths[len(way)]++
		} else {
			wantNone(t, c, s)
			none++
		}
	}
	if some < 10000 || none < 10000 {
		t.Errorf("only %d states, and %d without one", some, none)
	}
	for n := range 9 {
		if lengths[n] < 100 {
			t.Errorf("only %d ways of %d instructions", lengths[n], n)
		}
	}
}

// codeOf returns the code of a text.
func codeOf(t *testing.T, text string) api.Code {
	t.Helper()
	p, err, line := parse.Parse(text)
	if err != api.OK {
		t.Fatalf("parse.Parse(%q): error %d, line %d", text, err, line)
	}
	c, err, line := compile.Program(p)
	if err != api.OK || !compile.Valid(c) {
		t.Fatalf("compile.Program(%q): error %d, line %d", text, err, line)
	}
	return c
}

// wantSettled checks that each instruction of a code settles, and returns how many silent ones it has.
func wantSettled(t *testing.T, m *maker, c api.Code) int {
	t.Helper()
	silent := 0
	for _, x := range c.Threads {
		for pc, i := range x.Instrs {
			m.slips = 1 << 60
			s := m.state(x.Regs, pc)
			want, ok := specSettle(x, s)
			if !ok {
				t.Errorf("instruction %d of %v does not settle", pc, x)
			}
			wantState(t, x, s, want)
			if i.Op <= api.IJump {
				silent++
			}
		}
	}
	return silent
}

func TestCodesOfPrograms(t *testing.T) {
	m := newMaker(0)
	for _, text := range []string{
		"thread t() { }",
		"thread t(a) { while 1 { } }",
		"thread t(a) { while a { while a { while a { } } } }",
		"thread t(a) { while a { if a { } else { a = 1; } } }",
		"thread t(a) { if a { if a { } else { } } else { while a { } } a = 2; }",
		"thread t(a) { if a { while a { } } else { while !a { a = a - 1; } } }",
		"var x; thread t() { x = x + 1; } thread u(a, b) { a = x; b = a * a; x = -b; }",
		"var x[3]; mutex m; cond c m; thread t(i) { while i < 3 { lock m { x[i + 1] = x[i] * 2; wait c; } i = i + 1; } }",
		"future f; volatile v; rwlock r; thread t(a) { spawn u; get a f; read r { v = a; } join u; } thread u(a) { set f 1 + (2 + (3 + a)); write r { atomic { a = v; } } }",
		"var x; thread t(a) { transaction { while a < 5 { a = a + 1; if a % 2 == 0 { x = a; } else { x = !a; } } } }",
	} {
		wantSettled(t, m, codeOf(t, text))
	}
}

// body returns statements over the locals a, b and c, the scalar x and the array y.
func (m *maker) body(depth int) string {
	var b strings.Builder
	for range m.IntN(4) {
		target := []string{"a", "b", "c", "x", "y[" + m.expr(1, true) + "]"}[m.IntN(5)]
		switch kind := m.IntN(5); {
		case kind == 0 && depth > 0:
			b.WriteString("if " + m.expr(2, true) + " { " + m.body(depth-1) + "} else { " + m.body(depth-1) + "} ")
		case kind == 1 && depth > 0:
			b.WriteString("while " + m.expr(2, true) + " { " + m.body(depth-1) + "} ")
		default:
			b.WriteString(target + " = " + m.expr(3, true) + "; ")
		}
	}
	return b.String()
}

// expr returns the text of an expression, which may contain variables only if shared says so.
func (m *maker) expr(depth int, shared bool) string {
	switch kind := m.IntN(6); {
	case depth == 0 || kind == 0:
		names := []string{strconv.Itoa(m.IntN(5)), "a", "b", "c", "x", "y[0]"}
		if !shared {
			names = names[:4]
		}
		return names[m.IntN(len(names))]
	case kind == 1:
		return []string{"-", "!"}[m.IntN(2)] + m.expr(depth-1, shared)
	}
	sign := []string{"+", "-", "*", "/", "%", "==", "!=", "<", "<=", ">", ">=", "&&", "||"}[m.IntN(13)]
	return "(" + m.expr(depth-1, shared) + " " + sign + " " + m.expr(depth-1, shared) + ")"
}

func TestRandomPrograms(t *testing.T) {
	silent := 0
	for seed := uint64(0); seed < 400 && !t.Failed(); seed++ {
		m := newMaker(seed)
		text := "var x; var y[2]; thread t(a, b, c) { " + m.body(2) + "} thread u(c, b, a) { " + m.body(2) + "}"
		silent += wantSettled(t, m, codeOf(t, text))
	}
	if silent < 5000 {
		t.Errorf("only %d silent instructions", silent)
	}
}

// An assignment of an expression over locals gives its value, and the reads of all locals that occur in it.
func TestAssignmentsOfPureExpressions(t *testing.T) {
	for seed := uint64(0); seed < 3000 && !t.Failed(); seed++ {
		m := newMaker(seed)
		m.slips = 1 << 60
		text := m.expr(3, false)
		e, err, _ := parse.Expr(text)
		if err != api.OK {
			t.Fatalf("parse.Expr(%q): error %d", text, err)
		}
		x := codeOf(t, "thread t(a, b, c) { b = "+text+"; }").Threads[0]
		s := m.state(x.Regs, 0)
		value, _ := eval.Expr(e, []string{"a", "b", "c"}, s.Regs)
		var taint []int
		for i, name := range []string{"a", "b", "c"} {
			if strings.Contains(text, name) {
				taint = specUnion(taint, s.Taint[i])
			}
		}
		got, ok := Settle(x, s)
		if !ok || got.PC != len(x.Instrs)-1 || got.Regs[1] != value || !slices.Equal(got.Taint[1], taint) {
			t.Errorf("b = %s from %v gives %v, %v; want %d with %v", text, s, got, ok, value, taint)
		}
		for _, r := range []int{0, 2} {
			if ok && (got.Regs[r] != s.Regs[r] || !slices.Equal(got.Taint[r], s.Taint[r])) {
				t.Errorf("b = %s from %v changes register %d: %v", text, s, r, got)
			}
		}
	}
}
