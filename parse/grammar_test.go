package parse

import (
	"regexp"
	"slices"
	"strconv"
	"strings"
	"testing"

	"interleave/api"
	"interleave/token"
)

// P2.2 against a second definition: a recognizer (Earley's) for the grammar as the document writes it. It finds the first token with which the tokens are not the beginning of any sentence.

// The grammar of chapter 2; "positive" stands for a number that is not 0.
const grammarText = `
program     = { declaration } thread { thread } .
declaration = "var" name [ "[" positive "]" ] [ "=" [ "-" ] number ] ";"
            | "volatile" name [ "=" [ "-" ] number ] ";"
            | "mutex" name ";" | "rwlock" name ";" | "cond" name name ";" | "future" name ";" .
thread      = "thread" name "(" [ name { "," name } ] ")" block .
block       = "{" { statement } "}" .
statement   = name [ "[" expr "]" ] "=" expr ";"
            | "if" expr block [ "else" block ] | "while" expr block
            | "lock" name block | "read" name block | "write" name block
            | "transaction" block | "atomic" block
            | "wait" name ";" | "notify" name ";" | "notifyall" name ";"
            | "spawn" name ";" | "join" name ";" | "set" name expr ";" | "get" name name ";" .
expr        = and { "||" and } .
and         = comparison { "&&" comparison } .
comparison  = sum [ ( "==" | "!=" | "<" | "<=" | ">" | ">=" ) sum ] .
sum         = product { ( "+" | "-" ) product } .
product     = unary { ( "*" | "/" | "%" ) unary } .
unary       = ( "-" | "!" ) unary | primary .
primary     = number | name [ "[" expr "]" ] | "(" expr ")" .
`

// A rule says that left can be the symbols right, in order.
type rule struct {
	left  string
	right []string
}

type grammar struct {
	rules    []rule
	byLeft   map[string][]int
	nullable map[string]bool
	words    []string // of the text that is still to be read
}

func newGrammar() *grammar {
	g := &grammar{byLeft: map[string][]int{}, nullable: map[string]bool{}}
	g.words = regexp.MustCompile(`"[^"]+"|[a-z]+|[={}\[\]().|]`).FindAllString(grammarText, -1)
	for len(g.words) > 0 {
		left := g.word()
		g.word()
		g.alternatives(left)
		g.word()
	}
	for changed := true; changed; {
		changed = false
		for _, r := range g.rules {
			if !g.nullable[r.left] && !slices.ContainsFunc(r.right, func(s string) bool { return !g.nullable[s] }) {
				g.nullable[r.left], changed = true, true
			}
		}
	}
	return g
}

func (g *grammar) word() string {
	w := g.words[0]
	g.words = g.words[1:]
	return w
}

func (g *grammar) add(left string, right ...string) {
	g.byLeft[left] = append(g.byLeft[left], len(g.rules))
	g.rules = append(g.rules, rule{left, right})
}

// alternatives reads what can stand for left, up to a closing sign.
func (g *grammar) alternatives(left string) {
	var right []string
	for {
		switch g.words[0] {
		case ".", "}", "]", ")":
			g.add(left, right...)
			return
		case "|":
			g.add(left, right...)
			g.word()
			right = nil
		default:
			right = append(right, g.item())
		}
	}
}

// item reads one word or what is in braces, brackets or parentheses, and returns its symbol.
func (g *grammar) item() string {
	w := g.word()
	if w != "{" && w != "[" && w != "(" {
		return w
	}
	inner := "inner" + strconv.Itoa(len(g.words))
	symbol := "outer" + strconv.Itoa(len(g.words))
	g.alternatives(inner)
	g.word()
	switch w {
	case "{":
		g.add(symbol)
		g.add(symbol, symbol, inner)
	case "[":
		g.add(symbol)
		g.add(symbol, inner)
	case "(":
		g.add(symbol, inner)
	}
	return symbol
}

func fits(symbol, text string) bool {
	switch symbol {
	case "name":
		return token.IsName(text)
	case "number":
		return text[0] >= '0' && text[0] <= '9'
	case "positive":
		return text[0] >= '0' && text[0] <= '9' && strings.Trim(text, "0") != ""
	}
	return symbol == `"`+text+`"`
}

// An item is a rule of which the symbols ahead of dot were read, from token origin on.
type item struct{ rule, dot, origin int }

// A chart contains the items that are possible ahead of each token.
type chart struct {
	g     *grammar
	start string
	sets  [][]item
}

func newChart(g *grammar, start string) *chart {
	c := &chart{g: g, start: start}
	var first []item
	for _, r := range g.byLeft[start] {
		first = append(first, item{rule: r})
	}
	c.close(first)
	return c
}

// close completes a set and adds it to the chart.
func (c *chart) close(set []item) {
	at := len(c.sets)
	c.sets = append(c.sets, nil)
	seen := map[item]bool{}
	add := func(x item) {
		if !seen[x] {
			seen[x] = true
			set = append(set, x)
		}
	}
	for _, x := range set {
		seen[x] = true
	}
	for i := 0; i < len(set); i++ {
		x := set[i]
		r := c.g.rules[x.rule]
		if x.dot < len(r.right) {
			symbol := r.right[x.dot]
			for _, n := range c.g.byLeft[symbol] {
				add(item{n, 0, at})
			}
			if c.g.nullable[symbol] {
				add(item{x.rule, x.dot + 1, x.origin})
			}
			continue
		}
		from := c.sets[x.origin]
		if x.origin == at {
			from = slices.Clone(set)
		}
		for _, y := range from {
			if right := c.g.rules[y.rule].right; y.dot < len(right) && right[y.dot] == r.left {
				add(item{y.rule, y.dot + 1, y.origin})
			}
		}
	}
	c.sets[at] = set
}

// push reads a token and reports whether the tokens are the beginning of a sentence; if not, it changes nothing.
func (c *chart) push(text string) bool {
	var next []item
	for _, x := range c.sets[len(c.sets)-1] {
		if right := c.g.rules[x.rule].right; x.dot < len(right) && fits(right[x.dot], text) {
			next = append(next, item{x.rule, x.dot + 1, x.origin})
		}
	}
	if len(next) > 0 {
		c.close(next)
	}
	return len(next) > 0
}

func (c *chart) pop() {
	c.sets = c.sets[:len(c.sets)-1]
}

// whole reports whether the tokens are a sentence.
func (c *chart) whole() bool {
	return slices.ContainsFunc(c.sets[len(c.sets)-1], func(x item) bool {
		r := c.g.rules[x.rule]
		return r.left == c.start && x.dot == len(r.right) && x.origin == 0
	})
}

// wantLine compares the result for tokens that each stand on a line of their own: line is 0 if they are a sentence.
func wantLine(t *testing.T, start string, tokens []string, line int) {
	t.Helper()
	s := strings.Join(tokens, "\n")
	e, got := api.OK, 0
	if start == "program" {
		_, e, got = Parse(s)
	} else {
		_, e, got = Expr(s)
	}
	if got != line || (e == api.OK) != (line == 0) || e != api.OK && e != api.ErrSyntax {
		t.Errorf("%s %q: error %d, line %d; want line %d", start, tokens, e, got, line)
	}
}

var alphabet = strings.Fields(`var volatile mutex rwlock cond future thread if else while lock read write transaction atomic wait notify notifyall spawn join set get
	|| && == != <= >= < > + - * / % ! = ( ) [ ] { } , ; n 0 7`)

// tryAll compares the results for all continuations of the tokens, up to depth tokens behind those that are the beginning of a sentence.
func tryAll(t *testing.T, c *chart, tokens []string, depth int) {
	if c.whole() {
		wantLine(t, c.start, tokens, 0)
	} else {
		wantLine(t, c.start, tokens, max(1, len(tokens)))
	}
	for _, text := range alphabet {
		if depth == 0 {
			return
		}
		next := append(slices.Clone(tokens), text)
		if c.push(text) {
			tryAll(t, c, next, depth-1)
			c.pop()
			continue
		}
		wantLine(t, c.start, next, len(next))
		wantLine(t, c.start, append(next, "n", ";", "}", "thread"), len(next))
	}
}

func TestAllShortContinuations(t *testing.T) {
	g := newGrammar()
	begin := "thread t ( ) { "
	programs := []string{
		"", "var n", "var n [", "var n [ 1", "var n [ 1 ]", "var n =", "var n = -", "var n [ 1 ] = - 1", "volatile n", "volatile n = 1", "mutex n", "rwlock n", "cond n", "cond n n", "future n", "var n ;",
		"thread", "thread n", "thread n (", "thread n ( n", "thread n ( n ,", "thread n ( n )", "thread n ( ) { }", "thread n ( ) { } thread n ( ) { }",
		begin, begin + "n", begin + "n [", begin + "n [ n", begin + "n [ n ]", begin + "n =", begin + "n = n [", begin + "n = 1 < 1",
		begin + "if", begin + "if n", begin + "if n {", begin + "if n { }", begin + "if n { } else", begin + "if n { } else { }", begin + "if n { if n { }", begin + "while", begin + "while n < n", begin + "while n { }",
		begin + "lock", begin + "lock n", begin + "lock n { }", begin + "read", begin + "read n", begin + "write", begin + "write n", begin + "transaction", begin + "atomic", begin + "atomic { atomic { }",
		begin + "wait", begin + "wait n", begin + "notify", begin + "notify n", begin + "notifyall", begin + "notifyall n", begin + "spawn", begin + "spawn n", begin + "join", begin + "join n",
		begin + "set", begin + "set n", begin + "set n n", begin + "get", begin + "get n", begin + "get n n", begin + "transaction { }", begin + "}",
	}
	for _, s := range programs {
		tryBehind(t, newChart(g, "program"), strings.Fields(s), 2)
	}
	for _, s := range []string{"", "n", "( n", "n [", "n [ n", "- (", "! n", "n + n", "n < n", "n < n && n", "( n == n )", "n || n != n * n"} {
		tryBehind(t, newChart(g, "expr"), strings.Fields(s), 3)
	}
}

// tryBehind tries all continuations of tokens that are the beginning of a sentence.
func tryBehind(t *testing.T, c *chart, tokens []string, depth int) {
	for i, text := range tokens {
		if !c.push(text) {
			t.Fatalf("%s %q does not begin a sentence at %d", c.start, tokens, i)
		}
	}
	tryAll(t, c, tokens, depth)
}

// wantAsGrammar compares the result for any tokens.
func wantAsGrammar(t *testing.T, g *grammar, start string, tokens []string) {
	t.Helper()
	c := newChart(g, start)
	for i, text := range tokens {
		if !c.push(text) {
			wantLine(t, start, tokens, i+1)
			return
		}
	}
	if c.whole() {
		wantLine(t, start, tokens, 0)
	} else {
		wantLine(t, start, tokens, max(1, len(tokens)))
	}
}

func FuzzGrammar(f *testing.F) {
	for _, s := range []string{"", wholeSource, cut, "thread t() {", "var x[0]; thread t() { }", "a < b < c"} {
		f.Add(s)
	}
	g := newGrammar()
	f.Fuzz(func(t *testing.T, s string) {
		l, e, _ := token.Scan(s)
		if e != api.OK {
			return
		}
		var texts []string
		for _, x := range l {
			texts = append(texts, x.Text)
		}
		wantAsGrammar(t, g, "program", texts)
		wantAsGrammar(t, g, "expr", texts)
	})
}
