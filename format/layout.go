package format

import "interleave/api"

// A node is a value whose text consists of parts: a program, a statement or an expression.
type node struct {
	program *api.Program
	stmt    *api.Stmt
	expr    *api.Expr
	least   int // the level that the place of expr requires
}

// A part of a node's text is a string, the blanks ahead of a line, or the text of an inner node, which stands one depth further inside.
type part struct {
	text   string
	blanks bool
	inner  node
}

func (p part) isNode() bool {
	return p.inner != node{}
}

// layout lists the parts of a text.
type layout []part

func (n node) layout() layout {
	var l layout
	switch {
	case n.program != nil:
		l.program(n.program)
	case n.stmt != nil:
		l.statement(n.stmt)
	case n.expr != nil:
		l.expression(n.expr, n.least)
	}
	return l
}

func (l *layout) text(pieces ...string) {
	for _, s := range pieces {
		*l = append(*l, part{text: s})
	}
}

func (l *layout) blanks() {
	*l = append(*l, part{blanks: true})
}

func (l *layout) inner(e *api.Expr, least int) {
	*l = append(*l, part{inner: node{expr: e, least: least}})
}

func (l *layout) block(body []api.Stmt) {
	for i := range body {
		*l = append(*l, part{inner: node{stmt: &body[i]}})
	}
}
