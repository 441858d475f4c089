package parse

import (
	"slices"

	"interleave/api"
)

// expr = and { "||" and } .
func (p *parser) expr() api.Expr {
	return p.series((*parser).and, "||")
}

// and = comparison { "&&" comparison } .
func (p *parser) and() api.Expr {
	return p.series((*parser).comparison, "&&")
}

// comparison = sum [ ( "==" | "!=" | "<" | "<=" | ">" | ">=" ) sum ] .
func (p *parser) comparison() api.Expr {
	left := p.sum()
	if op := p.operator("==", "!=", "<", "<=", ">", ">="); op != 0 {
		return api.Expr{Op: op, L: []api.Expr{left, p.sum()}}
	}
	return left
}

// sum = product { ( "+" | "-" ) product } .
func (p *parser) sum() api.Expr {
	return p.series((*parser).product, "+", "-")
}

// product = unary { ( "*" | "/" | "%" ) unary } .
func (p *parser) product() api.Expr {
	return p.series((*parser).unary, "*", "/", "%")
}

// series reads operands with any of the signs between them, which associate to the left.
func (p *parser) series(operand func(*parser) api.Expr, signs ...string) api.Expr {
	e := operand(p)
	for {
		op := p.operator(signs...)
		if op == 0 {
			return e
		}
		e = api.Expr{Op: op, L: []api.Expr{e, operand(p)}}
	}
}

// operator goes on behind the next token if it is one of the signs, and returns its binary operator; otherwise it returns 0.
func (p *parser) operator(signs ...string) int {
	if !slices.Contains(signs, p.peek().Text) {
		return 0
	}
	return binaryOperator(p.pass().Text)
}

// binaryOperator returns the binary operator that sign denotes, or 0.
func binaryOperator(sign string) int {
	switch sign {
	case "||":
		return api.EOr
	case "&&":
		return api.EAnd
	case "==":
		return api.EEq
	case "!=":
		return api.ENe
	case "<":
		return api.ELt
	case "<=":
		return api.ELe
	case ">":
		return api.EGt
	case ">=":
		return api.EGe
	case "+":
		return api.EAdd
	case "-":
		return api.ESub
	case "*":
		return api.EMul
	case "/":
		return api.EDiv
	case "%":
		return api.EMod
	}
	return 0
}

// unary = ( "-" | "!" ) unary | primary .
func (p *parser) unary() api.Expr {
	if p.skip("-") {
		return api.Expr{Op: api.ENeg, L: []api.Expr{p.unary()}}
	}
	if p.skip("!") {
		return api.Expr{Op: api.ENot, L: []api.Expr{p.unary()}}
	}
	return p.primary()
}

// primary = number | name [ "[" expr "]" ] | "(" expr ")" .
func (p *parser) primary() api.Expr {
	if p.peek().Kind == api.TName {
		return p.variable()
	}
	if p.skip("(") {
		e := p.expr()
		p.expect(")")
		return e
	}
	return api.Expr{Op: api.ENum, N: p.number(0)}
}

func (p *parser) variable() api.Expr {
	e := api.Expr{Op: api.EName, Name: p.name(), L: p.index()}
	if len(e.L) > 0 {
		e.Op = api.EIndex
	}
	return e
}

// index = [ "[" expr "]" ] .
func (p *parser) index() []api.Expr {
	if !p.skip("[") {
		return nil
	}
	e := p.expr()
	p.expect("]")
	return []api.Expr{e}
}
