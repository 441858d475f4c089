package parse

import (
	"math/rand/v2"
	"slices"
	"strconv"
	"strings"
	"testing"

	"interleave/api"
)

// P2.1 and P2.3 on random programs: each is written with random gaps, parentheses and zeros, and Parse must return it with the lines of the text.

// A writer makes up a tree and its text at once.
type writer struct {
	*rand.Rand
	text   strings.Builder
	line   int
	last   string
	tokens []string
}

func newWriter(seed uint64) *writer {
	return &writer{Rand: rand.New(rand.NewPCG(seed, 2)), line: 1}
}

func (w *writer) chance(n int) bool { return w.IntN(n) == 0 }

func isWordByte(c byte) bool {
	return c == '_' || '0' <= c && c <= '9' || 'a' <= c && c <= 'z' || 'A' <= c && c <= 'Z'
}

// put writes a token with a gap ahead of it and returns its line.
func (w *writer) put(s string) int {
	gaps := []string{" ", "\n", "\t", "\r\n", "  ", "// gap ) { ;\n", "//\n", " \n\n "}
	gap := ""
	if w.chance(3) || w.last != "" && isWordByte(w.last[len(w.last)-1]) && isWordByte(s[0]) {
		gap = gaps[w.IntN(len(gaps))]
	}
	if w.last == "/" {
		gap = " " + gap
	}
	w.text.WriteString(gap + s)
	w.line += strings.Count(gap, "\n")
	w.last = s
	w.tokens = append(w.tokens, s)
	return w.line
}

func (w *writer) name() string {
	names := []string{"a", "b", "x", "m2", "If", "z_", "longestname1"}
	s := names[w.IntN(len(names))]
	w.put(s)
	return s
}

func (w *writer) number(least int64) int64 {
	values := []int64{0, 1, 2, 10, 1 << 40, 1<<63 - 1}
	n := max(least, values[w.IntN(len(values))])
	w.put(strings.Repeat("0", max(0, w.IntN(6)-3)) + strconv.FormatInt(n, 10))
	return n
}

func (w *writer) decl() api.Decl {
	words := []string{"", "var", "volatile", "mutex", "rwlock", "cond", "future"}
	d := api.Decl{Kind: 1 + w.IntN(6)}
	d.Line = w.put(words[d.Kind])
	d.Name = w.name()
	if d.Kind == api.DVar && w.chance(2) {
		w.put("[")
		d.Size = int(w.number(1))
		w.put("]")
	}
	if d.Kind <= api.DVolatile && w.chance(2) {
		w.put("=")
		if w.chance(2) {
			w.put("-")
			d.Init = -w.number(0)
		} else {
			d.Init = w.number(0)
		}
	}
	if d.Kind == api.DCond {
		d.On = w.name()
	}
	w.put(";")
	return d
}

func (w *writer) thread() api.Thread {
	t := api.Thread{Line: w.put("thread"), Name: w.name()}
	w.put("(")
	for i := range w.IntN(4) {
		if i > 0 {
			w.put(",")
		}
		t.Locals = append(t.Locals, w.name())
	}
	w.put(")")
	t.Body = w.block(4)
	return t
}

func (w *writer) block(depth int) []api.Stmt {
	var body []api.Stmt
	w.put("{")
	for depth > 0 && !w.chance(3) {
		body = append(body, w.stmt(depth-1))
	}
	w.put("}")
	return body
}

var stmtWords = []string{"", "", "if", "while", "lock", "read", "write", "transaction", "atomic", "wait", "notify", "notifyall", "spawn", "join", "set", "get"}

func (w *writer) stmt(depth int) api.Stmt {
	s := api.Stmt{Op: 1 + w.IntN(15)}
	if s.Op == api.SAssign {
		s.Name = w.name()
		s.Line = w.line
		if w.chance(2) {
			s.Index = []api.Expr{w.index()}
		}
		w.put("=")
	} else {
		s.Line = w.put(stmtWords[s.Op])
	}
	if s.Op >= api.SLock && s.Op <= api.SWrite || s.Op >= api.SWait {
		s.Name = w.name()
	}
	if s.Op == api.SGet {
		s.Arg = w.name()
	}
	if s.Op <= api.SWhile || s.Op == api.SSet {
		s.Expr = w.expr(1, w.IntN(5))
	}
	if s.Op == api.SAssign || s.Op >= api.SWait {
		w.put(";")
		return s
	}
	s.Body = w.block(depth)
	if s.Op == api.SIf && w.chance(2) {
		w.put("else")
		s.Else = w.block(depth)
	}
	return s
}

func (w *writer) index() api.Expr {
	w.put("[")
	e := w.expr(1, 2)
	w.put("]")
	return e
}

// expr writes an expression that stands where the grammar wants at least a level (1: expr, 2: and, 3: comparison, 4: sum, 5: product, 6: unary, 7: primary).
func (w *writer) expr(level, depth int) api.Expr {
	if w.chance(8) {
		w.put("(")
		e := w.expr(1, depth)
		w.put(")")
		return e
	}
	if depth == 0 || w.chance(5) {
		return w.primary(depth)
	}
	if w.chance(4) {
		return w.unary(level, depth)
	}
	f := binaries[w.IntN(len(binaries))]
	inside := f.level < level
	if inside {
		w.put("(")
	}
	least := f.level
	if least == 3 {
		least = 4
	}
	left := w.expr(least, depth-1)
	w.put(f.sign)
	e := op(f.op, left, w.expr(f.level+1, depth-1))
	if inside {
		w.put(")")
	}
	return e
}

func (w *writer) unary(level, depth int) api.Expr {
	u := unaries[w.IntN(2)]
	if level > 6 {
		w.put("(")
		defer w.put(")")
	}
	w.put(u.sign)
	return op(u.op, w.expr(6, depth-1))
}

func (w *writer) primary(depth int) api.Expr {
	if w.chance(2) {
		return num(w.number(0))
	}
	s := w.name()
	if depth > 0 && w.chance(2) {
		return element(s, w.index())
	}
	return name(s)
}

func (w *writer) program() api.Program {
	var p api.Program
	for range w.IntN(5) {
		p.Decls = append(p.Decls, w.decl())
	}
	for range 1 + w.IntN(3) {
		p.Threads = append(p.Threads, w.thread())
	}
	if w.chance(2) {
		w.text.WriteString("\n// end")
	}
	return p
}

func TestRandomPrograms(t *testing.T) {
	ops := map[int]int{}
	for seed := range uint64(3000) {
		w := newWriter(seed)
		want := w.program()
		s := w.text.String()
		if len(s) > api.MaxSource {
			continue
		}
		wantProgram(t, s, want)
		if t.Failed() {
			return
		}
		for _, x := range want.Threads {
			for _, y := range x.Body {
				ops[y.Op]++
			}
		}
	}
	for o := api.SAssign; o <= api.SGet; o++ {
		if ops[o] < 100 {
			t.Errorf("only %d statements of kind %d", ops[o], o)
		}
	}
}

func TestRandomExpressions(t *testing.T) {
	for seed := uint64(0); seed < 5000 && !t.Failed(); seed++ {
		w := newWriter(seed)
		want := w.expr(1, 1+w.IntN(5))
		if s := w.text.String(); len(s) <= api.MaxSource {
			wantExpr(t, s, want)
		}
	}
}

// P2.2 on random programs and expressions in which tokens are replaced, left out, added or exchanged.

func TestRandomErrors(t *testing.T) {
	g := newGrammar()
	for seed := uint64(0); seed < 4000 && !t.Failed(); seed++ {
		w := newWriter(seed)
		start := "program"
		if seed%4 == 0 {
			start = "expr"
			w.expr(1, 3)
		} else {
			w.program()
		}
		if len(w.tokens) > 150 {
			continue
		}
		tokens := slices.Clone(w.tokens)
		for range w.IntN(3) {
			tokens = w.spoiled(tokens)
		}
		wantAsGrammar(t, g, start, tokens)
	}
}

func (w *writer) spoiled(tokens []string) []string {
	if len(tokens) < 2 {
		return tokens
	}
	i, j := w.IntN(len(tokens)), w.IntN(len(tokens))
	other := alphabet[w.IntN(len(alphabet))]
	switch w.IntN(4) {
	case 0:
		tokens[i] = other
	case 1:
		tokens = slices.Delete(tokens, i, i+1)
	case 2:
		tokens = slices.Insert(tokens, i, other)
	case 3:
		tokens[i], tokens[j] = tokens[j], tokens[i]
	}
	return tokens
}
