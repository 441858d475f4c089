package check

import "interleave/api"

// expression returns the first error of a shaped expression.
func (s scope) expression(e *api.Expr) api.Errno {
	nodes := 0
	if !small(e, 1, &nodes) {
		return api.ErrTooLarge
	}
	return s.names(e)
}

// small reports whether e, which stands at a depth, keeps the limits; nodes counts the nodes.
//
// It ends at the first node beyond a limit: an expression can be of any depth, and can use its parts so often that nobody can count its nodes.
func small(e *api.Expr, depth int, nodes *int) bool {
	*nodes++
	if *nodes > api.MaxNodes || depth > api.MaxDepth {
		return false
	}
	for i := range e.L {
		if !small(&e.L[i], depth+1, nodes) {
			return false
		}
	}
	return true
}

// names returns the error of the first name in e that has one.
func (s scope) names(e *api.Expr) api.Errno {
	err := api.OK
	switch e.Op {
	case api.EName:
		err = s.kind(e.Name, local, scalar)
	case api.EIndex:
		err = s.kind(e.Name, array)
	}
	for i := 0; i < len(e.L) && err == api.OK; i++ {
		err = s.names(&e.L[i])
	}
	return err
}
