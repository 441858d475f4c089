package check

import (
	"slices"

	"interleave/api"
)

// declarations returns the first error of the declarations and its line.
func declarations(p api.Program) (api.Errno, int) {
	var sum total
	for i, d := range p.Decls {
		if err := declaration(d, p.Decls[:i], &sum); err != api.OK {
			return err, d.Line
		}
	}
	return api.OK, 0
}

// declaration returns the first error of a declaration behind those of a list, whose total is sum, and adds it to sum.
func declaration(d api.Decl, earlier []api.Decl, sum *total) api.Errno {
	if declarationOf(earlier, d.Name) >= 0 {
		return api.ErrDuplicate
	}
	if d.Size > api.MaxSize {
		return api.ErrTooLarge
	}
	sum.add(d)
	if sum.tooLarge() {
		return api.ErrTooLarge
	}
	if d.Kind == api.DCond {
		return scope{decls: earlier}.kind(d.On, mutex)
	}
	return api.OK
}

// total says how much of what is limited some declarations declare.
type total struct{ cells, locks, conds, futures int }

func (t *total) add(d api.Decl) {
	switch meaningOf(d) {
	case scalar:
		t.cells++
	case array:
		t.cells += d.Size
	case mutex, rwlock:
		t.locks++
	case condition:
		t.conds++
	case future:
		t.futures++
	}
}

func (t *total) tooLarge() bool {
	return t.cells > api.MaxCells || t.locks > api.MaxLocks || t.conds > api.MaxConds || t.futures > api.MaxFutures
}

func threadCount(p api.Program) (api.Errno, int) {
	return errorIf(len(p.Threads) > api.MaxThreads, api.ErrTooLarge), 0
}

// threadNames returns the first error of the names of the threads and its line.
func threadNames(p api.Program) (api.Errno, int) {
	for i, t := range p.Threads {
		if declarationOf(p.Decls, t.Name) >= 0 || threadOf(p.Threads[:i], t.Name) >= 0 {
			return api.ErrDuplicate, t.Line
		}
	}
	return api.OK, 0
}

// locals returns the first error of the locals of the threads and its line.
func locals(p api.Program) (api.Errno, int) {
	for _, t := range p.Threads {
		if len(t.Locals) > api.MaxLocals {
			return api.ErrTooLarge, t.Line
		}
		for i, name := range t.Locals {
			if declarationOf(p.Decls, name) >= 0 || threadOf(p.Threads, name) >= 0 || slices.Contains(t.Locals[:i], name) {
				return api.ErrDuplicate, t.Line
			}
		}
	}
	return api.OK, 0
}
