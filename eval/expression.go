package eval

import "interleave/api"

// Expr returns the value of an expression over variables.
//
// It is not recursive and visits no node twice, because an argument can be of any depth and use one slice at many places. One that contains itself has no value.
func Expr(e api.Expr, names []string, values []int64) (int64, bool) {
	known := variables(names, values)
	results := map[*api.Expr]result{&e: {}}
	stack := []visit{{node: &e}}
	for {
		top := &stack[len(stack)-1]
		if top.complete() {
			value, ok := top.value(known)
			if !ok || len(stack) == 1 {
				return value, ok
			}
			results[top.node] = result{value, true}
			stack = stack[:len(stack)-1]
			stack[len(stack)-1].add(value)
			continue
		}
		if top.full() {
			return 0, false
		}
		next := top.next()
		r, begun := results[next]
		switch {
		case r.done:
			top.add(r.value)
		case begun:
			return 0, false
		default:
			results[next] = result{}
			stack = append(stack, visit{node: next})
		}
	}
}

// variables returns the value of each name that has one.
func variables(names []string, values []int64) map[string]int64 {
	m := map[string]int64{}
	for k := range min(len(names), len(values)) {
		if _, earlier := m[names[k]]; !earlier {
			m[names[k]] = values[k]
		}
	}
	return m
}

// A result is the value of a node whose visit is done.
type result struct {
	value int64
	done  bool
}

// A visit is one to a node of which the values of the first count operands are known.
type visit struct {
	node     *api.Expr
	operands [2]int64
	count    int
}

func (v *visit) complete() bool {
	return v.count == len(v.node.L)
}

// full reports whether as many values are known as an operator can have operands.
func (v *visit) full() bool {
	return v.count == len(v.operands)
}

// next returns the first operand whose value is not known.
func (v *visit) next() *api.Expr {
	return &v.node.L[v.count]
}

func (v *visit) add(value int64) {
	v.operands[v.count] = value
	v.count++
}

// value returns the value of the node of a complete visit. No operator is both unary and binary, so the number of its operands tells which function knows it.
func (v *visit) value(variables map[string]int64) (int64, bool) {
	switch v.count {
	case 0:
		return leaf(v.node, variables)
	case 1:
		return Unary(v.node.Op, v.operands[0])
	}
	return Binary(v.node.Op, v.operands[0], v.operands[1])
}

// leaf returns the value of a node without operands.
func leaf(e *api.Expr, variables map[string]int64) (int64, bool) {
	switch e.Op {
	case api.ENum:
		return e.N, true
	case api.EName:
		value, ok := variables[e.Name]
		return value, ok
	}
	return 0, false
}
