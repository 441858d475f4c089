package parse

import (
	"math"

	"interleave/api"
	"interleave/token"
)

// Shaped reports whether p could be a result of Parse, apart from lines.
func Shaped(p api.Program) bool {
	for _, d := range p.Decls {
		if !shapedDecl(d) {
			return false
		}
	}
	for _, t := range p.Threads {
		if !shapedThread(t) {
			return false
		}
	}
	return len(p.Threads) > 0
}

// ShapedExpr reports whether e could be a result of Expr.
func ShapedExpr(e api.Expr) bool {
	return shapedExprs([]api.Expr{e})
}

func shapedDecl(d api.Decl) bool {
	if !token.IsName(d.Name) || d.Size < 0 || d.Init == math.MinInt64 {
		return false
	}
	switch d.Kind {
	case api.DVar:
		return d.On == ""
	case api.DVolatile:
		return d.Size == 0 && d.On == ""
	case api.DMutex, api.DRWLock, api.DFuture:
		return d.Size == 0 && d.Init == 0 && d.On == ""
	case api.DCond:
		return d.Size == 0 && d.Init == 0 && token.IsName(d.On)
	}
	return false
}

func shapedThread(t api.Thread) bool {
	for _, s := range t.Locals {
		if !token.IsName(s) {
			return false
		}
	}
	return token.IsName(t.Name) && everyNode(t.Body, fittingStmt, stmtParts)
}

func stmtParts(s *api.Stmt) [][]api.Stmt {
	return [][]api.Stmt{s.Body, s.Else}
}

// fields says which fields the statements of a kind have.
type fields struct{ name, arg, index, expr, body, otherwise bool }

var stmtFields = [...]fields{
	api.SAssign:      {name: true, index: true, expr: true},
	api.SIf:          {expr: true, body: true, otherwise: true},
	api.SWhile:       {expr: true, body: true},
	api.SLock:        {name: true, body: true},
	api.SRead:        {name: true, body: true},
	api.SWrite:       {name: true, body: true},
	api.STransaction: {body: true},
	api.SAtomic:      {body: true},
	api.SWait:        {name: true},
	api.SNotify:      {name: true},
	api.SNotifyAll:   {name: true},
	api.SSpawn:       {name: true},
	api.SJoin:        {name: true},
	api.SSet:         {name: true, expr: true},
	api.SGet:         {name: true, arg: true},
}

// fittingStmt reports whether s is shaped, apart from the statements inside it.
func fittingStmt(s *api.Stmt) bool {
	if s.Op < api.SAssign || s.Op > api.SGet {
		return false
	}
	has := stmtFields[s.Op]
	return fittingName(s.Name, has.name) && fittingName(s.Arg, has.arg) &&
		(len(s.Index) == 0 || has.index && len(s.Index) == 1 && shapedExprs(s.Index)) &&
		(has.expr && ShapedExpr(s.Expr) || !has.expr && isZero(s.Expr)) &&
		(has.body || len(s.Body) == 0) && (has.otherwise || len(s.Else) == 0)
}

// fittingName reports whether s is a name if one is wanted, and empty if not.
func fittingName(s string, wanted bool) bool {
	return wanted && token.IsName(s) || !wanted && s == ""
}

func isZero(e api.Expr) bool {
	return e.Op == 0 && e.N == 0 && e.Name == "" && len(e.L) == 0
}

func shapedExprs(l []api.Expr) bool {
	return everyNode(l, fittingExpr, exprParts)
}

func exprParts(e *api.Expr) [][]api.Expr {
	return [][]api.Expr{e.L}
}

// fittingExpr reports whether e is shaped, apart from its operands.
func fittingExpr(e *api.Expr) bool {
	named := e.Op == api.EName || e.Op == api.EIndex
	return e.Op >= api.ENum && e.Op <= api.EOr && len(e.L) == operands(e.Op) &&
		fittingName(e.Name, named) && (e.N == 0 || e.Op == api.ENum && e.N > 0)
}

// operands returns how many operands an operator of package api needs.
func operands(op int) int {
	switch op {
	case api.ENum, api.EName:
		return 0
	case api.EIndex, api.ENeg, api.ENot:
		return 1
	}
	return 2
}

// everyNode reports whether all nodes of the trees with these roots are fitting; parts returns the lists of nodes directly below one.
//
// It is not recursive and visits no node twice, because an argument can be of any depth and use one slice at many places. One that contains itself is no tree.
func everyNode[T any](roots []T, fitting func(*T) bool, parts func(*T) [][]T) bool {
	const open, done = 1, 2
	visits := map[*T]int{}
	var stack []*T
	for i := range roots {
		stack = append(stack, &roots[i])
	}
	for len(stack) > 0 {
		node := stack[len(stack)-1]
		if visits[node] != 0 {
			visits[node] = done
			stack = stack[:len(stack)-1]
			continue
		}
		if !fitting(node) {
			return false
		}
		visits[node] = open
		for _, part := range parts(node) {
			for i := range part {
				switch visits[&part[i]] {
				case open:
					return false
				case 0:
					stack = append(stack, &part[i])
				}
			}
		}
	}
	return true
}
