package format

import (
	"strconv"

	"interleave/api"
)

// Levels of operators that the code names.
const (
	lowest     = 1
	comparison = 3
	unary      = 6
)

// An operator of a higher level holds its operands together more closely.
type operator struct {
	sign  string
	level int
}

var operators = [...]operator{
	api.EOr:    {"||", 1},
	api.EAnd:   {"&&", 2},
	api.EEq:    {"==", comparison},
	api.ENe:    {"!=", comparison},
	api.ELt:    {"<", comparison},
	api.ELe:    {"<=", comparison},
	api.EGt:    {">", comparison},
	api.EGe:    {">=", comparison},
	api.EAdd:   {"+", 4},
	api.ESub:   {"-", 4},
	api.EMul:   {"*", 5},
	api.EDiv:   {"/", 5},
	api.EMod:   {"%", 5},
	api.ENeg:   {"-", unary},
	api.ENot:   {"!", unary},
	api.ENum:   {"", 7},
	api.EName:  {"", 7},
	api.EIndex: {"", 7},
}

// operatorOf returns the row of an operator, or an empty one if there is no such operator.
func operatorOf(op int) operator {
	if op < 0 || op >= len(operators) {
		return operator{}
	}
	return operators[op]
}

// expression adds e at a place that requires at least a level.
func (l *layout) expression(e *api.Expr, least int) {
	o := operatorOf(e.Op)
	if o.level >= least {
		l.bare(e, o)
		return
	}
	l.text("(")
	l.bare(e, o)
	l.text(")")
}

// bare adds e, whose operator is o, without parentheses around it.
func (l *layout) bare(e *api.Expr, o operator) {
	switch {
	case e.Op == api.ENum:
		l.text(strconv.FormatInt(e.N, 10))
	case e.Op == api.EName:
		l.text(e.Name)
	case e.Op == api.EIndex:
		l.text(e.Name)
		l.index(e.L)
	case o.level == unary:
		l.text(o.sign)
		l.operand(e.L, 0, unary)
	default:
		l.operand(e.L, 0, o.leftLevel())
		l.text(" ", o.sign, " ")
		l.operand(e.L, 1, o.level+1)
	}
}

// leftLevel returns the level that a binary operator requires of its left operand.
func (o operator) leftLevel() int {
	if o.level == comparison {
		return comparison + 1
	}
	return o.level
}

// operand adds operand i, which an expression that is not shaped may lack.
func (l *layout) operand(operands []api.Expr, i, least int) {
	if i < len(operands) {
		l.inner(&operands[i], least)
	}
}

// index adds the index of an element, which is the first of a list.
func (l *layout) index(list []api.Expr) {
	l.text("[")
	l.operand(list, 0, lowest)
	l.text("]")
}
