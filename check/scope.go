package check

import (
	"slices"

	"interleave/api"
)

// meaning says what a name stands for in a thread.
type meaning int

const (
	undefined meaning = iota
	local
	scalar
	array
	mutex
	rwlock
	condition
	future
	thread
	strange // a declaration of a kind that package api does not have
)

// scope contains all that a name can stand for in a thread. A name of a program with errors may stand for several things: then locals go ahead of declarations, and these ahead of threads.
type scope struct {
	locals  []string
	decls   []api.Decl
	threads []api.Thread
}

// scopeOf returns the scope of the thread with an index, or one without locals if there is no such thread.
func scopeOf(p api.Program, index int) scope {
	s := scope{decls: p.Decls, threads: p.Threads}
	if index >= 0 && index < len(p.Threads) {
		s.locals = p.Threads[index].Locals
	}
	return s
}

func (s scope) meaning(name string) meaning {
	if slices.Contains(s.locals, name) {
		return local
	}
	if i := declarationOf(s.decls, name); i >= 0 {
		return meaningOf(s.decls[i])
	}
	if threadOf(s.threads, name) >= 0 {
		return thread
	}
	return undefined
}

// kind returns the error of a name that must have one of some meanings.
func (s scope) kind(name string, asked ...meaning) api.Errno {
	m := s.meaning(name)
	return first(errorIf(m == undefined, api.ErrUndefined), errorIf(!slices.Contains(asked, m), api.ErrKind))
}

func meaningOf(d api.Decl) meaning {
	switch d.Kind {
	case api.DVar:
		if d.Size != 0 {
			return array
		}
		return scalar
	case api.DVolatile:
		return scalar
	case api.DMutex:
		return mutex
	case api.DRWLock:
		return rwlock
	case api.DCond:
		return condition
	case api.DFuture:
		return future
	}
	return strange
}

// declarationOf returns the index of the first declaration with a name, or -1.
func declarationOf(decls []api.Decl, name string) int {
	return slices.IndexFunc(decls, func(d api.Decl) bool { return d.Name == name })
}

// threadOf returns the index of the first thread with a name, or -1.
func threadOf(threads []api.Thread, name string) int {
	return slices.IndexFunc(threads, func(t api.Thread) bool { return t.Name == name })
}
