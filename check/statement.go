package check

import "interleave/api"

// statement returns the first error of the visited statement, apart from those inside it.
func (w *walk) statement(s *api.Stmt) api.Errno {
	if len(w.around) >= api.MaxNest {
		return api.ErrTooLarge
	}
	switch s.Op {
	case api.SAssign:
		return w.assignment(s)
	case api.SIf, api.SWhile:
		return w.expression(&s.Expr)
	case api.SLock:
		return first(w.kind(s.Name, mutex), nesting(w.inside(api.STransaction) || w.insideOf(s.Name, api.SLock)))
	case api.SRead, api.SWrite:
		return first(w.kind(s.Name, rwlock), nesting(w.inside(api.STransaction) || w.insideOf(s.Name, api.SRead, api.SWrite)))
	case api.STransaction:
		return nesting(w.inside(api.STransaction))
	case api.SAtomic:
		return nesting(w.inside(api.STransaction, api.SAtomic))
	case api.SWait, api.SNotify, api.SNotifyAll:
		return w.signal(s)
	case api.SSpawn, api.SJoin:
		return w.control(s)
	case api.SSet:
		return w.setting(s)
	case api.SGet:
		return first(w.kind(s.Name, local), w.kind(s.Arg, future), nesting(w.inside(api.STransaction)))
	}
	return api.OK
}

// nesting returns the error of a statement that may not stand where it does.
func nesting(wrong bool) api.Errno {
	return errorIf(wrong, api.ErrNesting)
}

func (w *walk) assignment(s *api.Stmt) api.Errno {
	if len(s.Index) == 0 {
		return first(w.kind(s.Name, local, scalar), w.expression(&s.Expr))
	}
	return first(w.kind(s.Name, array), w.expression(&s.Index[0]), w.expression(&s.Expr))
}

// signal is about the statements of a condition.
func (w *walk) signal(s *api.Stmt) api.Errno {
	if err := w.kind(s.Name, condition); err != api.OK {
		return err
	}
	guard := w.decls[declarationOf(w.decls, s.Name)].On
	return nesting(w.inside(api.STransaction) || !w.insideOf(guard, api.SLock) || s.Op == api.SWait && w.inside(api.SAtomic))
}

// control is about the statements of a thread.
func (w *walk) control(s *api.Stmt) api.Errno {
	err := first(w.kind(s.Name, thread), nesting(w.inside(api.STransaction, api.SAtomic) || s.Name == w.own))
	if err != api.OK || s.Op == api.SJoin {
		return err
	}
	return first(nesting(w.inside(api.SWhile) || s.Name == w.threads[0].Name), errorIf(w.repeated(s.Name), api.ErrOnce))
}

func (w *walk) setting(s *api.Stmt) api.Errno {
	if err := first(w.kind(s.Name, future), nesting(w.inside(api.STransaction, api.SWhile))); err != api.OK {
		return err
	}
	return first(errorIf(w.repeated(s.Name), api.ErrOnce), w.expression(&s.Expr))
}
